/-
  Lxa: turned for the seats of values.
-/
import Derived.Lib.MapLaws
import Derived.Lib.ValidLaws
import Derived.Lib.ParseIntB
import Derived.Laws.Runes
namespace Go.Proofs.YtokkmjcpjjiaaaaDoor.S9
open Go.Lib
theorem decodeL_low (b : UInt8) (l : List UInt8) (h : b.toNat < 128) : decodeL (b :: l) = (b.toNat, 1) := by
  rw [decodeL_N]
  exact decodeN_ascii _ _ _ _ _ h
theorem decodeL_high (b : UInt8) (l : List UInt8) (h : 128 ≤ b.toNat) : 128 ≤ (decodeL (b :: l)).1 := by
  rw [decodeL_N]
  have hb : ((b :: l).getD 0 0).toNat = b.toNat := rfl
  rw [hb]
  rcases decodeN_shape (b :: l).length b.toNat ((b :: l).getD 1 0).toNat ((b :: l).getD 2 0).toNat ((b :: l).getD 3 0).toNat with ⟨c, e⟩ | ⟨_, _, _, cv, e⟩ | ⟨_, _, _, _, cv, _, e⟩ | ⟨_, _, _, _, _, cv, _, e⟩ | e
  · omega
  · rw [e]; dsimp only; omega
  · rw [e]; dsimp only; omega
  · rw [e]; dsimp only; omega
  · rw [e]; dsimp only; omega
theorem encode_low (b : UInt8) (h : b.toNat < 128) : encodeRune (b.toNat : Int) = [b] := by
  unfold encodeRune
  rw [encodeRuneZ_one (by omega) (by omega)]
  simp
end Go.Proofs.YtokkmjcpjjiaaaaDoor.S9
namespace Go.Proofs.YtokkmjcpjjiaaaaDoor.S9
open Go.Lib
set_option linter.unusedSimpArgs false
/-- What a word is, how many bytes it has; or the error. -/
structure Wd where
  k : Int
  t : List UInt8
  n : Int
  len : Nat
  e : Int
def bad (e : Int) : Wd := ⟨0, [], 0, 0, e⟩
/-- A word in its place. -/
structure Tk where
  k : Int
  t : List UInt8
  n : Int
  at' : Nat
instance : Inhabited Tk := ⟨⟨0, [], 0, 0⟩⟩
end Go.Proofs.YtokkmjcpjjiaaaaDoor.S9
namespace Go.Proofs.YtokkmjcpjjiaaaaDoor.S9
open Go.Lib
set_option linter.unusedSimpArgs false
theorem decodeL_scalar (l : List UInt8) : (decodeL l).1 < 55296 ∨ 57344 ≤ (decodeL l).1 ∧ (decodeL l).1 ≤ 1114111 := by
  rw [decodeL_N]
  rcases decodeN_shape l.length (l.getD 0 0).toNat (l.getD 1 0).toNat (l.getD 2 0).toNat (l.getD 3 0).toNat with ⟨c, e⟩ | ⟨_, _, _, cv, e⟩ | ⟨_, _, _, _, cv, cs, e⟩ | ⟨_, _, _, _, _, cv, cw, e⟩ | e
  · rw [e]; dsimp only; omega
  · rw [e]; dsimp only; omega
  · rw [e]; dsimp only; omega
  · rw [e]; dsimp only; omega
  · rw [e]; dsimp only; omega
theorem toI (z : Int) (_h0 : 0 ≤ z) (h : z < 256) : (z.toNat.toUInt8).toNat = z.toNat := by simp; omega
end Go.Proofs.YtokkmjcpjjiaaaaDoor.S9
namespace Go.Proofs.YtokkmjcpjjiaaaaDoor.S9
open Go.Lib
set_option linter.unusedSimpArgs false
theorem encode_highs (r : Int) (h : 128 ≤ r) : ∀ b ∈ encodeRune r, 128 ≤ b.toNat := by
  intro b hb
  unfold encodeRune at hb
  obtain ⟨x, hx, rfl⟩ := List.mem_map.1 hb
  have h2 := encodeRuneZ_byte r x hx
  have hh : 128 ≤ x := by
    unfold encodeRuneZ at hx
    repeat' split at hx
    all_goals
      simp at hx
      omega
  rw [toI x (by omega) (by omega)]
  omega
end Go.Proofs.YtokkmjcpjjiaaaaDoor.S9
namespace Go.Proofs.YtokkmjcpjjiaaaaDoor.S9
open Go.Lib
set_option linter.unusedSimpArgs false
end Go.Proofs.YtokkmjcpjjiaaaaDoor.S9
namespace Go.Proofs.YtokkmjcpjjiaaaaDoor.S9
open Go.Lib
set_option linter.unusedSimpArgs false
end Go.Proofs.YtokkmjcpjjiaaaaDoor.S9
namespace Go.Proofs.YtokkmjcpjjiaaaaDoor.S9
open Go.Lib
set_option linter.unusedSimpArgs false
end Go.Proofs.YtokkmjcpjjiaaaaDoor.S9
namespace Go.Proofs.YtokkmjcpjjiaaaaDoor.S9
open Go.Lib
set_option linter.unusedSimpArgs false
/-- A byte as it stands between quotes. -/
def escB (b : UInt8) : List UInt8 := if b = 39 ∨ b = 92 then [92, b] else if b = 10 then [92, 110] else [b]
def escS (l : List UInt8) : List UInt8 := l.flatMap escB
theorem escS_cons (b : UInt8) (r : List UInt8) : escS (b :: r) = escB b ++ escS r := rfl
theorem escS_app (a b : List UInt8) : escS (a ++ b) = escS a ++ escS b := by simp [escS]
theorem escS_high : ∀ l : List UInt8, (∀ b ∈ l, 128 ≤ b.toNat) → escS l = l
  | [], _ => rfl
  | b :: r, h => by
    have hb := h b (List.mem_cons_self ..)
    rw [escS_cons, escS_high r fun c hc => h c (List.mem_cons_of_mem _ hc)]
    have h1 : b ≠ 39 := fun e => by rw [e] at hb; exact absurd hb (by decide)
    have h2 : b ≠ 92 := fun e => by rw [e] at hb; exact absurd hb (by decide)
    have h3 : b ≠ 10 := fun e => by rw [e] at hb; exact absurd hb (by decide)
    unfold escB
    rw [if_neg (by simp [h1, h2]), if_neg h3]
    rfl
def quoL (l : List UInt8) : List UInt8 := 39 :: (escS l ++ [39])
end Go.Proofs.YtokkmjcpjjiaaaaDoor.S9
