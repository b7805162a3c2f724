/-
  A number written decimal, with noughts ahead, is read as it.
-/
import Derived.Test.YtdnlnghgjjiajaaDoorLxp
import Derived.Lib.ItoaMem
import Derived.Lib.ItoaLen
import Derived.KernelRfl
namespace Go.Proofs.YtdnlnghgjjiajaaDoor
open Go.Lib
set_option linter.unusedSimpArgs false

theorem numFrom_append (v : Nat) (a b : List UInt8) : numFrom v (a ++ b) = numFrom (numFrom v a) b := by
  unfold numFrom
  rw [List.foldl_append]
theorem numFrom_one (v : Nat) (b : UInt8) : numFrom v [b] = 10 * v + (b.toNat - 48) := by
  unfold numFrom
  rw [List.foldl_cons, List.foldl_nil]
theorem numFrom_zeros : ∀ k : Nat, numFrom 0 (List.replicate k 48) = 0
  | 0 => rfl
  | k + 1 => by
    rw [List.replicate_succ, numFrom_cons]
    exact numFrom_zeros k
theorem dec_byte (u : Nat) (h : u < 10) : (UInt8.ofNat (48 + u)).toNat = 48 + u := by
  simp
  omega
theorem dec_eq (u : Nat) : decDigits u = if u < 10 then [UInt8.ofNat (48 + u)] else decDigits (u / 10) ++ [UInt8.ofNat (48 + u % 10)] := by
  rw [decDigits]
  split <;> rfl
theorem dec_num (n : Nat) : ∀ u, u ≤ n → numFrom 0 (decDigits u) = u ∧ (∀ b ∈ decDigits u, digU b) ∧ decDigits u ≠ [] := by
  induction n with
  | zero =>
    intro u hu
    obtain rfl : u = 0 := by omega
    rw [dec_eq, if_pos (by omega)]
    refine ⟨?_, ?_, by simp⟩
    · rw [numFrom_one, dec_byte 0 (by omega)]
    · intro b hb
      rw [List.mem_singleton] at hb
      subst hb
      unfold digU
      rw [dec_byte 0 (by omega)]
      omega
  | succ n ih =>
    intro u hu
    rw [dec_eq]
    by_cases h : u < 10
    · rw [if_pos h]
      refine ⟨?_, ?_, by simp⟩
      · rw [numFrom_one, dec_byte u h]; omega
      · intro b hb
        rw [List.mem_singleton] at hb
        subst hb
        unfold digU
        rw [dec_byte u h]
        omega
    · rw [if_neg h]
      obtain ⟨h1, h2, h3⟩ := ih (u / 10) (by omega)
      refine ⟨?_, ?_, by simp⟩
      · rw [numFrom_append, h1, numFrom_one, dec_byte _ (by omega)]; omega
      · intro b hb
        rcases List.mem_append.1 hb with hb | hb
        · exact h2 b hb
        · rw [List.mem_singleton] at hb
          subst hb
          unfold digU
          rw [dec_byte _ (by omega)]
          omega
theorem span_all : ∀ (ds r : List UInt8), (∀ b ∈ ds, digU b) → spanL digB (ds ++ 32 :: r) = ds.length
  | [], r, _ => span_nodig 32 r (by unfold digU; decide)
  | b :: ds, r, h => by
    rw [List.cons_append, span_dig b _ (h b (List.mem_cons_self ..)), span_all ds r (fun c hc => h c (List.mem_cons_of_mem _ hc)), List.length_cons, Nat.add_comm]
set_option maxRecDepth 100000 in
theorem tail_word : wordL [97] = ⟨1, [97], 0, 1, 0⟩ := by kernel_rfl
theorem lex_digits (ds : List UInt8) (hne : ds ≠ []) (hd : ∀ b ∈ ds, digU b) (hm : numFrom 0 ds ≤ maxI) (hl : ds.length + 2 ≤ 4096) :
    lexL (ds ++ [32, 97]) = ([⟨3, [], numFrom 0 ds, 0⟩, ⟨1, [97], 0, ds.length + 1⟩], 0, 0) := by
  have hlen : (ds ++ [32, 97]).length = ds.length + 1 + 1 := by simp
  have hpos : 1 ≤ ds.length := List.length_pos_iff.2 hne
  obtain ⟨m, hmm⟩ : ∃ m, ds.length = m + 1 := ⟨ds.length - 1, by omega⟩
  have hw : wordL (ds ++ [32, 97]) = ⟨3, [], numFrom 0 ds, ds.length, 0⟩ ∧ blankB (decodeL (ds ++ [32, 97])).1 = false := by
    match ds, hne, hd, hm with
    | b :: r, _, hd, hm =>
      have hb := hd b (List.mem_cons_self ..)
      have hlow : b.toNat < 128 := by unfold digU at hb; omega
      have hdg : digB (decodeL (b :: (r ++ [32, 97]))).1 = true := (dig_head b _).2 hb
      have hsp := span_all (b :: r) [97] hd
      unfold digU at hb
      rw [List.cons_append] at hsp ⊢
      have h39 : (decodeL (b :: (r ++ [32, 97]))).1 ≠ 39 := by
        rw [decodeL_low b _ hlow]; dsimp only; omega
      refine ⟨?_, ?_⟩
      · unfold wordL
        rw [if_neg h39, if_pos hdg]
        unfold numW
        rw [hsp]
        have ht : (b :: (r ++ [32, 97])).take (b :: r).length = b :: r := by
          rw [← List.cons_append, List.take_left]
        rw [ht, if_pos hm]
      · rw [decodeL_low b _ hlow]
        dsimp only
        cases hbk : blankB (b.toNat : Int) with
        | false => rfl
        | true =>
          rw [blankB_t] at hbk
          omega
  have hne2 : ds ++ [32, 97] ≠ [] := by simp
  unfold lexL
  rw [if_neg (by rw [hlen]; omega), hlen]
  rw [lex_word _ _ _ _ hne2 hw.2 (by rw [hw.1]), hw.1]
  dsimp only
  rw [List.drop_left, hmm, Nat.zero_add]
  rw [lex_blank _ _ [32, 97] _ (by simp) (by rw [decodeL_low 32 _ (by decide)]; decide)]
  rw [show ([32, 97] : List UInt8).drop 1 = [97] from rfl]
  rw [lex_word _ _ [97] _ (by simp) (by rw [decodeL_low 97 _ (by decide)]; decide) (by rw [tail_word]), tail_word]
  dsimp only
  rw [show ([97] : List UInt8).drop 1 = [] from rfl, lex_end]
  rfl
end Go.Proofs.YtdnlnghgjjiajaaDoor
