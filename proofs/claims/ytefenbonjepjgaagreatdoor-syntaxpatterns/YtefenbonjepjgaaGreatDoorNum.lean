/-
  Digits as a number: what the library makes of them.
-/
import Derived.Test.YtefenbonjepjgaaGreatDoorDec
namespace Go.Proofs.YtefenbonjepjgaaGreatDoor
open Go.Lib
set_option linter.unusedSimpArgs false

def digU (b : UInt8) : Prop := 48 ≤ b.toNat ∧ b.toNat ≤ 57
theorem dig_head (b : UInt8) (l : List UInt8) : digB (decodeL (b :: l)).1 = true ↔ digU b := by
  unfold digU
  rw [digB_t]
  by_cases h : b.toNat < 128
  · rw [decodeL_low b l h]; dsimp only; omega
  · have := decodeL_high b l (by omega)
    omega
theorem span_dig (b : UInt8) (l : List UInt8) (h : digU b) : spanL digB (b :: l) = 1 + spanL digB l := by
  have hb : b.toNat < 128 := by unfold digU at h; omega
  rw [spanL_step _ _ (by simp), if_pos ((dig_head b l).2 h), decodeL_low b l hb]
  rfl
theorem span_nodig (b : UInt8) (l : List UInt8) (h : ¬ digU b) : spanL digB (b :: l) = 0 := by
  rw [spanL_step _ _ (by simp), if_neg (fun e => h ((dig_head b l).1 e))]
theorem span_digits : ∀ l : List UInt8, ∀ b ∈ l.take (spanL digB l), digU b
  | [], b, h => by simp at h
  | c :: l, b, h => by
    by_cases hc : digU c
    · rw [span_dig c l hc, Nat.add_comm, List.take_succ_cons] at h
      rcases List.mem_cons.1 h with rfl | h
      · exact hc
      · exact span_digits l b h
    · rw [span_nodig c l hc] at h
      simp at h
theorem numFrom_cons (v : Nat) (b : UInt8) (l : List UInt8) : numFrom v (b :: l) = numFrom (10 * v + (b.toNat - 48)) l := by
  unfold numFrom
  rw [List.foldl_cons]
theorem numFrom_ge (l : List UInt8) : ∀ v : Nat, v ≤ numFrom v l := by
  induction l with
  | nil => exact fun v => Nat.le_refl v
  | cons b l ih =>
    intro v
    rw [numFrom_cons]
    have := ih (10 * v + (b.toNat - 48))
    omega
theorem parse_cons (M v : Nat) (b : UInt8) (l : List UInt8) : parseUintM M v (b :: l) = if 48 ≤ b.toNat ∧ b.toNat ≤ 57 then (if 1844674407370955162 ≤ v then .range else if M < v * 10 + (b.toNat - 48) then .range else parseUintM M (v * 10 + (b.toNat - 48)) l) else .syntax := by
  rw [parseUintM]
theorem parse_from (M : Nat) (hM : M < 18446744073709551620) (l : List UInt8) : ∀ (v : Nat), (∀ b ∈ l, digU b) → v ≤ M →
    parseUintM M v l = if numFrom v l ≤ M then .ok (numFrom v l) else .range := by
  induction l with
  | nil =>
    intro v _ hv
    rw [show numFrom v [] = v from rfl, if_pos hv, parseUintM]
  | cons b l ih =>
    intro v h hv
    have hb : digU b := h b (List.mem_cons_self ..)
    have hl : ∀ c ∈ l, digU c := fun c hc => h c (List.mem_cons_of_mem _ hc)
    unfold digU at hb
    rw [numFrom_cons, parse_cons, if_pos hb]
    have hge := numFrom_ge l (10 * v + (b.toNat - 48))
    by_cases h1 : 1844674407370955162 ≤ v
    · rw [if_pos h1, if_neg (by omega)]
    · rw [if_neg h1]
      by_cases h2 : M < v * 10 + (b.toNat - 48)
      · rw [if_pos h2, if_neg (by omega)]
      · rw [if_neg h2, show v * 10 + (b.toNat - 48) = 10 * v + (b.toNat - 48) by omega]
        exact ih _ hl (by omega)
theorem int_from (B c v : Nat) (hc : ¬ c = 45) (P : NumEnd Nat) (hP : P = if v ≤ 18446744073709551615 then .ok v else .range) (hB : B = 9223372036854775808) :
    (match P with
    | .syntax => (.syntax : NumEnd Int)
    | .range => .range
    | .ok u => if ¬ c = 45 ∧ B ≤ u then .range else if c = 45 ∧ B < u then .range else .ok (if c = 45 then -(u : Int) else u)) = if v ≤ maxI then .ok (v : Int) else .range := by
  subst hP
  unfold maxI
  by_cases h1 : v ≤ 18446744073709551615
  · simp only [if_pos h1]
    by_cases h2 : v ≤ 9223372036854775807
    · rw [if_pos h2, if_neg (by omega), if_neg (by omega), if_neg hc]
    · rw [if_neg h2, if_pos ⟨hc, by omega⟩]
  · simp only [if_neg h1]
    rw [if_neg (by omega)]
theorem parse_digits (l : List UInt8) (hne : l ≠ []) (h : ∀ b ∈ l, digU b) : parseIntB 64 l = if numFrom 0 l ≤ maxI then .ok (numFrom 0 l : Int) else .range := by
  match l, hne with
  | c :: r, _ =>
    have hc : digU c := h c (List.mem_cons_self ..)
    unfold digU at hc
    have hP := parse_from (2 ^ 64 - 1) (by decide) (c :: r) 0 h (Nat.zero_le _)
    have hU : parseUintB 64 (c :: r) = parseUintM (2 ^ 64 - 1) 0 (c :: r) := by
      unfold parseUintB
      rw [if_neg (by simp)]
    have hI : (if c.toNat = 43 ∨ c.toNat = 45 then r else c :: r) = c :: r := if_neg (fun e => by omega)
    unfold parseIntB
    dsimp only
    rw [hI, hU]
    exact int_from _ _ _ (fun e => by omega) _ hP rfl
theorem take_digits_ne (l : List UInt8) (h : digB (decodeL l).1 = true) (hne : l ≠ []) : l.take (spanL digB l) ≠ [] := by
  match l, hne with
  | c :: r, _ =>
    rw [span_dig c r ((dig_head c r).1 h), Nat.add_comm, List.take_succ_cons]
    simp
end Go.Proofs.YtefenbonjepjgaaGreatDoor
