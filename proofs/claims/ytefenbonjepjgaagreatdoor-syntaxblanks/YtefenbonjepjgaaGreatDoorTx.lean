/-
  Texts between quotes, byte by byte and rune by rune.
-/
import Derived.Test.YtefenbonjepjgaaGreatDoorDec
namespace Go.Proofs.YtefenbonjepjgaaGreatDoor
open Go.Lib
set_option linter.unusedSimpArgs false

/-- Behind a backslash. -/
def escL : List UInt8 → Option (List UInt8 × Nat)
  | [] => none
  | c :: r => if c = 39 ∨ c = 92 then (textL r).map fun x => (c :: x.1, x.2 + 1) else if c = 110 then (textL r).map fun x => (10 :: x.1, x.2 + 1) else none
/-- With this ahead, of so many bytes. -/
def pre (a : List UInt8) (p : Nat) (o : Option (List UInt8 × Nat)) : Option (List UInt8 × Nat) := o.map fun x => (a ++ x.1, p + x.2)
theorem pre_pre (a b : List UInt8) (p q : Nat) (o : Option (List UInt8 × Nat)) : pre a p (pre b q o) = pre (a ++ b) (p + q) o := by
  cases o <;> simp [pre, Nat.add_assoc]
theorem pre_nil (o : Option (List UInt8 × Nat)) : pre [] 0 o = o := by
  cases o <;> simp [pre]
theorem pre_none (a : List UInt8) (p : Nat) : pre a p none = none := rfl
theorem escL_cons (c : UInt8) (r : List UInt8) : escL (c :: r) = if c = 39 ∨ c = 92 then (textL r).map fun x => (c :: x.1, x.2 + 1) else if c = 110 then (textL r).map fun x => (10 :: x.1, x.2 + 1) else none := rfl
theorem scan_cons (b : UInt8) (r : List UInt8) (h1 : b ≠ 39) (h2 : b ≠ 92) : scanB (b :: r) = (scanB r).map fun x => (b :: x.1, x.2 + 1) := by
  rw [scanB.eq_def]
  dsimp only
  rw [if_neg h1, if_neg h2]
theorem scan_esc (c : UInt8) (r : List UInt8) : scanB (92 :: c :: r) = if c = 39 ∨ c = 92 then (scanB r).map fun x => (c :: x.1, x.2 + 2) else if c = 110 then (scanB r).map fun x => (10 :: x.1, x.2 + 2) else none := by
  rw [scanB.eq_def]
  dsimp only
  rw [if_neg (by decide), if_pos rfl]
theorem low_of {c d : UInt8} (h : c = d) (hd : d.toNat < 128) : c.toNat < 128 := h ▸ hd
theorem textL_nil : textL [] = none := rfl
theorem textL_quote (r : List UInt8) : textL (39 :: r) = some ([], 0) := by
  unfold textL
  rw [scanB.eq_def]
  dsimp only
  rw [if_pos rfl]
  rfl
theorem textL_esc (r : List UInt8) : textL (92 :: r) = pre [] 1 (escL r) := by
  match r with
  | [] => rfl
  | c :: r =>
    rw [escL_cons]
    unfold textL
    rw [scan_esc]
    by_cases h1 : c = 39 ∨ c = 92
    · have hc : c.toNat < 128 := by rcases h1 with h | h <;> exact low_of h (by decide)
      rw [if_pos h1, if_pos h1]
      cases h : scanB r with
      | none => rfl
      | some x =>
        dsimp only [Option.map_some]
        rw [show (92 :: c :: r : List UInt8).take (x.2 + 2) = 92 :: c :: r.take x.2 from rfl, validD_cons 92 _ (by decide), validD_cons c _ hc]
        cases validD (r.take x.2) with
        | true => (simp [pre]; omega)
        | false => rfl
    · rw [if_neg h1, if_neg h1]
      by_cases h2 : c = 110
      · have hc : c.toNat < 128 := low_of h2 (by decide)
        rw [if_pos h2, if_pos h2]
        cases h : scanB r with
        | none => rfl
        | some x =>
          dsimp only [Option.map_some]
          rw [show (92 :: c :: r : List UInt8).take (x.2 + 2) = 92 :: c :: r.take x.2 from rfl, validD_cons 92 _ (by decide), validD_cons c _ hc]
          cases validD (r.take x.2) with
          | true => (simp [pre]; omega)
          | false => rfl
      · rw [if_neg h2, if_neg h2]
        rfl
theorem scan_high (r : List UInt8) : ∀ p : List UInt8, (∀ b ∈ p, 128 ≤ b.toNat) → scanB (p ++ r) = (scanB r).map fun x => (p ++ x.1, p.length + x.2)
  | [], _ => by cases h : scanB r <;> simp [h]
  | b :: p, h => by
    have hb := h b (List.mem_cons_self ..)
    rw [List.cons_append, scan_cons _ _ (fun e => by rw [e] at hb; exact absurd hb (by decide)) (fun e => by rw [e] at hb; exact absurd hb (by decide)), scan_high r p (fun c hc => h c (List.mem_cons_of_mem _ hc))]
    cases scanB r with
    | none => rfl
    | some x => simp; omega
theorem encode_highs (r : Int) (h : 128 ≤ r) : ∀ b ∈ encodeRune r, 128 ≤ b.toNat := by
  intro b hb
  unfold encodeRune at hb
  obtain ⟨x, hx, rfl⟩ := List.mem_map.1 hb
  have h2 := encodeRuneZ_byte r x hx
  have hh : 128 ≤ x := by
    unfold encodeRuneZ at hx
    repeat' split at hx
    all_goals
      simp at hx
      omega
  rw [toI x (by omega) (by omega)]
  omega
/-- A rune that is no quote and no backslash. -/
theorem textL_rune (l : List UInt8) (hne : l ≠ []) (hv : ¬ ((decodeL l).1 = 65533 ∧ (decodeL l).2 = 1)) (h1 : (decodeL l).1 ≠ 39) (h2 : (decodeL l).1 ≠ 92) :
    textL l = pre (encodeRune ((decodeL l).1 : Int)) (decodeL l).2 (textL (l.drop (decodeL l).2)) := by
  match l, hne with
  | b :: r, hne =>
    by_cases hb : b.toNat < 128
    · rw [decodeL_low b r hb] at h1 h2 ⊢
      dsimp only at h1 h2 ⊢
      rw [encode_low b hb, List.drop_one, List.tail_cons]
      unfold textL
      rw [scan_cons b r (fun e => h1 (by rw [e]; rfl)) (fun e => h2 (by rw [e]; rfl))]
      cases h : scanB r with
      | none => rfl
      | some x =>
        dsimp only [Option.map_some]
        rw [List.take_succ_cons, validD_cons b _ hb]
        cases validD (r.take x.2) with
        | true => simp [pre, Nat.add_comm]
        | false => rfl
    · have hd := decodeL_high b r (by omega)
      have he := encode_decode (b :: r) hne hv
      have hs := validD_step ((b :: r).take 1)
      generalize hl : b :: r = l at *
      have hle := decodeL_le l hne
      have hpos := decodeL_pos l
      have hlen : (l.take (decodeL l).2).length = (decodeL l).2 := by simp; omega
      have hh : ∀ c ∈ l.take (decodeL l).2, 128 ≤ c.toNat := by
        rw [← he]
        exact encode_highs _ (by omega)
      have hsc := scan_high (l.drop (decodeL l).2) _ hh
      rw [List.take_append_drop, hlen] at hsc
      rw [he]
      unfold textL
      rw [hsc]
      cases h : scanB (l.drop (decodeL l).2) with
      | none => rfl
      | some x =>
        dsimp only [Option.map_some]
        have hvd : validD (l.take ((decodeL l).2 + x.2)) = validD ((l.drop (decodeL l).2).take x.2) := by
          have hd2 := decodeL_take l ((decodeL l).2 + x.2) (by omega)
          have hn2 : l.take ((decodeL l).2 + x.2) ≠ [] := by
            intro e
            have := congrArg List.length e
            rw [List.length_take, List.length_nil] at this
            omega
          rw [validD_step _ hn2, hd2, if_neg hv, List.drop_take]
          congr 2
          omega
        rw [hvd]
        cases validD ((l.drop (decodeL l).2).take x.2) with
        | true => rfl
        | false => rfl
theorem bad_head {b : UInt8} {r : List UInt8} (hv : (decodeL (b :: r)).1 = 65533 ∧ (decodeL (b :: r)).2 = 1) : 128 ≤ b.toNat := by
  rcases Nat.lt_or_ge b.toNat 128 with h | h
  · rw [decodeL_low b r h] at hv
    have := hv.1
    dsimp only at this
    omega
  · exact h
theorem textL_bad (l : List UInt8) (hne : l ≠ []) (hv : (decodeL l).1 = 65533 ∧ (decodeL l).2 = 1) : textL l = none := by
  match l, hne with
  | b :: r, hne =>
    have hb := bad_head hv
    unfold textL
    rw [scan_cons b r (fun e => by rw [e] at hb; exact absurd hb (by decide)) (fun e => by rw [e] at hb; exact absurd hb (by decide))]
    cases h : scanB r with
    | none => rfl
    | some x =>
      dsimp only [Option.map_some]
      have hd2 := decodeL_take (b :: r) (x.2 + 1) (by omega)
      have hn2 : (b :: r).take (x.2 + 1) ≠ [] := by rw [List.take_succ_cons]; simp
      rw [validD_step _ hn2, hd2, if_pos hv]
      rfl
theorem escL_bad (l : List UInt8) (hne : l ≠ []) (hv : (decodeL l).1 = 65533 ∧ (decodeL l).2 = 1) : escL l = none := by
  match l, hne with
  | b :: r, hne =>
    have hb := bad_head hv
    rw [escL, if_neg, if_neg]
    · rintro rfl; exact absurd hb (by decide)
    · rintro (rfl | rfl) <;> exact absurd hb (by decide)
/-- Behind a backslash, by the rune. -/
theorem escL_rune (l : List UInt8) (hne : l ≠ []) : escL l =
    if (decodeL l).1 = 39 ∨ (decodeL l).1 = 92 then pre (encodeRune ((decodeL l).1 : Int)) (decodeL l).2 (textL (l.drop (decodeL l).2))
    else if (decodeL l).1 = 110 then pre [10] (decodeL l).2 (textL (l.drop (decodeL l).2)) else none := by
  match l, hne with
  | b :: r, hne =>
    by_cases hb : b.toNat < 128
    · have e : ∀ d : UInt8, (b = d ↔ b.toNat = d.toNat) := fun d => ⟨fun h => by rw [h], fun h => UInt8.toNat_inj.1 h⟩
      rw [decodeL_low b r hb]
      dsimp only
      rw [encode_low b hb, List.drop_one, List.tail_cons, escL]
      have e1 := e 39
      have e2 := e 92
      have e3 := e 110
      rw [show (39 : UInt8).toNat = 39 from rfl] at e1
      rw [show (92 : UInt8).toNat = 92 from rfl] at e2
      rw [show (110 : UInt8).toNat = 110 from rfl] at e3
      simp only [e1, e2, e3]
      split
      · cases textL r <;> simp [pre, Nat.add_comm]
      · split
        · cases textL r <;> simp [pre, Nat.add_comm]
        · rfl
    · have hd := decodeL_high b r (by omega)
      rw [if_neg (by omega), if_neg (by omega), escL, if_neg, if_neg]
      · rintro rfl; exact hb (by decide)
      · rintro (rfl | rfl) <;> exact hb (by decide)
/-- U+FFFD written out, or a byte that is none. -/
theorem written (l : List UInt8) (hne : l ≠ []) (h : (decodeL l).1 = 65533) : ([239, 191, 189] : List UInt8).isPrefixOf l = true ↔ ¬ ((decodeL l).1 = 65533 ∧ (decodeL l).2 = 1) := by
  constructor
  · intro hp hv
    obtain ⟨r, rfl⟩ := List.isPrefixOf_iff_prefix.1 hp
    have := decode_encode 65533 (by decide) (by decide) r
    rw [show encodeRune 65533 = [239, 191, 189] by decide] at this
    rw [this] at hv
    exact absurd hv.2 (by decide)
  · intro hv
    have he := encode_decode l hne hv
    rw [h] at he
    have e3 : encodeRune ((65533 : Nat) : Int) = [239, 191, 189] := by decide
    rw [e3] at he
    exact List.isPrefixOf_iff_prefix.2 (he ▸ List.take_prefix _ _)
theorem head_low (L : List UInt8) (hne : L ≠ []) (d : UInt8) (hd : d.toNat < 128) (h : (decodeL L).1 = d.toNat) : L = d :: L.drop 1 ∧ (decodeL L).2 = 1 := by
  match L, hne with
  | b :: r, hne =>
    by_cases hb : b.toNat < 128
    · rw [decodeL_low b r hb] at h ⊢
      exact ⟨by rw [UInt8.toNat_inj.1 h]; rfl, rfl⟩
    · have := decodeL_high b r (by omega)
      omega
/-- A step, not behind a backslash. -/
theorem tx_plain (l L acc : List UInt8) (pos : Nat) (hne : L ≠ []) (h : textL l = pre acc pos (textL L)) :
    ((decodeL L).1 = 65533 ∧ (decodeL L).2 = 1 → textL l = none) ∧
    ((decodeL L).1 = 39 → textL l = some (acc, pos)) ∧
    ((decodeL L).1 = 92 → textL l = pre acc (pos + (decodeL L).2) (escL (L.drop (decodeL L).2))) ∧
    (¬ ((decodeL L).1 = 65533 ∧ (decodeL L).2 = 1) → (decodeL L).1 ≠ 39 → (decodeL L).1 ≠ 92 →
      textL l = pre (acc ++ encodeRune ((decodeL L).1 : Int)) (pos + (decodeL L).2) (textL (L.drop (decodeL L).2))) := by
  refine ⟨fun hb => ?_, fun h39 => ?_, fun h92 => ?_, fun hb h39 h92 => ?_⟩
  · rw [h, textL_bad L hne hb]; rfl
  · obtain ⟨e, _⟩ := head_low L hne 39 (by decide) h39
    rw [e, textL_quote] at h
    rw [h]
    simp [pre]
  · obtain ⟨e, e2⟩ := head_low L hne 92 (by decide) h92
    rw [e2]
    rw [e, textL_esc, pre_pre, List.append_nil] at h
    exact h
  · rw [h, textL_rune L hne hb h39 h92, pre_pre]
/-- A step behind a backslash. -/
theorem tx_esc (l L acc : List UInt8) (pos : Nat) (hne : L ≠ []) (h : textL l = pre acc pos (escL L)) :
    ((decodeL L).1 = 110 → textL l = pre (acc ++ [10]) (pos + (decodeL L).2) (textL (L.drop (decodeL L).2))) ∧
    ((decodeL L).1 = 39 ∨ (decodeL L).1 = 92 → textL l = pre (acc ++ encodeRune ((decodeL L).1 : Int)) (pos + (decodeL L).2) (textL (L.drop (decodeL L).2))) ∧
    ((decodeL L).1 ≠ 110 → (decodeL L).1 ≠ 39 → (decodeL L).1 ≠ 92 → textL l = none) := by
  rw [escL_rune L hne] at h
  refine ⟨fun e => ?_, fun e => ?_, fun e1 e2 e3 => ?_⟩
  · rw [if_neg (by omega), if_pos e, pre_pre] at h
    exact h
  · rw [if_pos e, pre_pre] at h
    exact h
  · rw [if_neg (by omega), if_neg e1] at h
    exact h
end Go.Proofs.YtefenbonjepjgaaGreatDoor
