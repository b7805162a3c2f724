/-
  Reading the text of a literal gives the literal (pure).
-/
import Derived.Test.YtkcnpbckmdgfnaaGreatDoorPrt
import Derived.Test.YtkcnpbckmdgfnaaGreatDoorSya
namespace Go.Proofs.YtkcnpbckmdgfnaaGreatDoor
open Go.Lib
set_option linter.unusedSimpArgs false
set_option linter.unusedVariables false

theorem numFrom_append (v : Nat) (a b : List UInt8) : numFrom v (a ++ b) = numFrom (numFrom v a) b := by
  unfold numFrom
  rw [List.foldl_append]
theorem numFrom_one (v : Nat) (b : UInt8) : numFrom v [b] = 10 * v + (b.toNat - 48) := rfl
theorem dec_byte (u : Nat) (h : u < 10) : (UInt8.ofNat (48 + u)).toNat = 48 + u := by
  simp
  omega
theorem dec_eq (u : Nat) : decDigits u = if u < 10 then [UInt8.ofNat (48 + u)] else decDigits (u / 10) ++ [UInt8.ofNat (48 + u % 10)] := by
  rw [decDigits]
  split <;> rfl
theorem dec_num (n : Nat) : ∀ u, u ≤ n → numFrom 0 (decDigits u) = u ∧ (∀ b ∈ decDigits u, digU b) ∧ decDigits u ≠ [] := by
  induction n with
  | zero =>
    intro u hu
    obtain rfl : u = 0 := by omega
    rw [dec_eq, if_pos (by omega)]
    refine ⟨?_, ?_, by simp⟩
    · rw [numFrom_one, dec_byte 0 (by omega)]
    · intro b hb
      rw [List.mem_singleton] at hb
      subst hb
      unfold digU
      rw [dec_byte 0 (by omega)]
      omega
  | succ n ih =>
    intro u hu
    rw [dec_eq]
    by_cases h : u < 10
    · rw [if_pos h]
      refine ⟨?_, ?_, by simp⟩
      · rw [numFrom_one, dec_byte u h]; omega
      · intro b hb
        rw [List.mem_singleton] at hb
        subst hb
        unfold digU
        rw [dec_byte u h]
        omega
    · rw [if_neg h]
      obtain ⟨h1, h2, h3⟩ := ih (u / 10) (by omega)
      refine ⟨?_, ?_, by simp⟩
      · rw [numFrom_append, h1, numFrom_one, dec_byte _ (by omega)]; omega
      · intro b hb
        rcases List.mem_append.1 hb with hb | hb
        · exact h2 b hb
        · rw [List.mem_singleton] at hb
          subst hb
          unfold digU
          rw [dec_byte _ (by omega)]
          omega
theorem span_all : ∀ l : List UInt8, (∀ b ∈ l, digU b) → spanL digB l = l.length
  | [], _ => rfl
  | b :: l, h => by
    rw [span_dig b l (h b (by simp)), span_all l fun c hc => h c (by simp [hc])]
    simp
    omega
theorem dig_blank (b : UInt8) (h : digU b) : blankB (b.toNat : Int) = false ∧ ¬ ((b.toNat : Int) = 39) := by
  unfold digU at h
  have key : ∀ n : Fin 58, 48 ≤ n.1 → blankB ((n.1 : Nat) : Int) = false := by decide
  exact ⟨key ⟨b.toNat, by omega⟩ h.1, by omega⟩
/-- A number's digits are one word, which is it. -/
theorem lex_digits (u : Nat) (hu : u ≤ maxI) (hl : (decDigits u).length ≤ 4096) : lexL (decDigits u) = ([⟨3, [], (u : Int), 0⟩], 0, 0) := by
  obtain ⟨h1, h2, h3⟩ := dec_num u u (Nat.le_refl u)
  generalize decDigits u = D at *
  have hs := span_all D h2
  obtain ⟨b, r, rfl⟩ : ∃ b r, D = b :: r := by
    cases D with
    | nil => exact absurd rfl h3
    | cons b r => exact ⟨b, r, rfl⟩
  have hb := h2 b (by simp)
  have hlow : b.toNat < 128 := by unfold digU at hb; omega
  have hd := (dig_head b r).2 hb
  have hw : wordL (b :: r) = ⟨3, [], (u : Int), (b :: r).length, 0⟩ := by
    unfold wordL
    rw [if_neg (by rw [decodeL_low b r hlow]; dsimp only; have := (dig_blank b hb).2; omega), if_pos hd]
    unfold numW
    rw [hs, List.take_length, h1, if_pos hu]
  have hz : (b :: r).length = r.length + 1 := rfl
  unfold lexL
  rw [if_neg (by omega), hz, lex_word _ _ _ _ (by simp) (by rw [decodeL_low b r hlow]; exact (dig_blank b hb).1) (by rw [hw]), hw]
  dsimp only
  rw [List.drop_length, lex_end]
  rfl
theorem read_word {l : List UInt8} {L : List Tk} {x : Ex} (h : lexL l = (L, 0, 0)) (h2 : exprL l.length L = .ok x []) : parseEL l = .ok x [] := by
  unfold parseEL
  rw [h]
  dsimp only
  rw [if_pos rfl, h2]
  rfl
theorem read_num (E : Nat) (n : Int) : exprL E [⟨3, [], n, 0⟩] = .ok (litE 2 false n []) [] := rfl
theorem read_text (E : Nat) (t : List UInt8) : exprL E [⟨4, t, 0, 0⟩] = .ok (litE 3 false 0 t) [] := rfl
theorem read_null : parseEL [78, 85, 76, 76] = .ok (litE 0 false 0 []) [] := by kernel_rfl
theorem read_true : parseEL [84, 82, 85, 69] = .ok (litE 1 true 0 []) [] := by kernel_rfl
theorem read_false : parseEL [70, 65, 76, 83, 69] = .ok (litE 1 false 0 []) [] := by kernel_rfl
/-- What a value that may stand in a query is like. -/
theorem lit_parts {k : Int} {b : Bool} {n : Int} {t : List UInt8} {ph : List Int} (h : litB k b n t ph = true) :
    ph = [] ∧ 0 ≤ n ∧ ((k = 0 ∧ b = false ∧ n = 0 ∧ t = []) ∨ (k = 1 ∧ n = 0 ∧ t = []) ∨ (k = 2 ∧ b = false ∧ t = []) ∨ (k = 3 ∧ b = false ∧ n = 0 ∧ validD t = true)) := by
  unfold litB rgV V2.rgtB V2.othB V2.fitB at h
  simp only [Bool.and_eq_true, Bool.or_eq_true, decide_eq_true_eq, Bool.not_eq_true', txt_size, List.length_eq_zero_iff] at h
  obtain ⟨⟨⟨⟨⟨⟨h1, h2⟩, h3⟩, h4⟩, h5⟩, h6⟩, h7⟩ := h
  have h46 : ¬ k = 6 := by omega
  have hph : ph = [] := h4.resolve_left h46
  refine ⟨hph, h7, ?_⟩
  by_cases k0 : k = 0
  · subst k0
    exact .inl ⟨rfl, h1.resolve_left (by decide), by simpa using h2, h3.resolve_left (by decide)⟩
  by_cases k1 : k = 1
  · subst k1
    exact .inr (.inl ⟨rfl, by simpa using h2, h3.resolve_left (by decide)⟩)
  by_cases k2 : k = 2
  · subst k2
    exact .inr (.inr (.inl ⟨rfl, h1.resolve_left (by decide), h3.resolve_left (by decide)⟩))
  by_cases k3 : k = 3
  · subst k3
    rw [if_neg (by omega), if_pos rfl] at h5
    simp only [Bool.and_eq_true, decide_eq_true_eq] at h5
    exact .inr (.inr (.inr ⟨rfl, h1.resolve_left (by decide), by simpa using h2, h5.2⟩))
  · rw [if_neg (by omega), if_neg k3, if_neg (by omega), if_neg h46] at h5
    cases h5
theorem read_lit {k : Int} {b : Bool} {n : Int} {t : List UInt8} {ph : List Int} (h : litB k b n t ph = true) (hn : n ≤ 9223372036854775807) (hl : (litT k b n t).length ≤ 4096) : parseEL (litT k b n t) = .ok (litE k b n t) [] := by
  obtain ⟨_, h0, h1⟩ := lit_parts h
  rcases h1 with ⟨rfl, rfl, rfl, rfl⟩ | ⟨rfl, rfl, rfl⟩ | ⟨rfl, rfl, rfl⟩ | ⟨rfl, rfl, rfl, hv⟩
  · exact read_null
  · cases b
    · exact read_false
    · exact read_true
  · have e : litT 2 false n [] = decDigits n.toNat := rfl
    rw [e] at hl ⊢
    have e2 : ((n.toNat : Nat) : Int) = n := by omega
    have h2 := lex_digits n.toNat (by unfold maxI; omega) hl
    rw [e2] at h2
    exact read_word h2 (read_num _ _)
  · have e : litT 3 false 0 t = quoL t := rfl
    rw [e] at hl ⊢
    exact read_word (lex_quoted t hv hl) (read_text _ _)
end Go.Proofs.YtkcnpbckmdgfnaaGreatDoor
