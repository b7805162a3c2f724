/-
  What LexMoves asks of Lex.
-/
import Derived.Test.YtdnlnghgjjiajaaDoorMov
import Derived.Test.YtdnlnghgjjiajaaDoorNumbers
namespace Go.Proofs.YtdnlnghgjjiajaaDoor
open Go.RowKit
set_option linter.unusedSimpArgs false
set_option linter.unusedVariables false

/-- A list of words, as it lies in memory: whatever its length. -/
def Tks2 (w : World) (p : Option Addr) (L : List Tk) : Prop :=
  L = [] ∨ ∃ g, p = some ⟨g, 0, none⟩ ∧ ∀ i, i < L.length →
    w.cell? ⟨g, i * 4, none⟩ = some (.int .i64 (L.getD i default).k) ∧ w.cell? ⟨g, i * 4 + 1, none⟩ = some (.string (txt (L.getD i default).t)) ∧
    w.cell? ⟨g, i * 4 + 2, none⟩ = some (.int .i64 (L.getD i default).n) ∧ w.cell? ⟨g, i * 4 + 3, none⟩ = some (.int .i64 (L.getD i default).at')
theorem TksAt.two {w : World} {v : Value} {L : List Tk} (h : TksAt w v L) : ∃ p cap, v = .slice p L.length cap ∧ Tks2 w p L := by
  rcases h with ⟨rfl, rfl⟩ | ⟨g, cap, rfl, h⟩
  · exact ⟨none, 0, rfl, .inl rfl⟩
  · exact ⟨_, cap, rfl, .inr ⟨g, rfl, h⟩⟩
theorem Tks2.below {w w' : World} {p : Option Addr} {L : List Tk} (h : Tks2 w p L) (hb : Below w.heap.size w w') : Tks2 w' p L := by
  rcases h with h | ⟨g, e, h⟩
  · exact .inl h
  · refine .inr ⟨g, e, fun i hi => ?_⟩
    obtain ⟨c0, c1, c2, c3⟩ := h i hi
    exact ⟨(hb.cell (World.block_lt_of_cell? w _ c0)).trans c0, (hb.cell (World.block_lt_of_cell? w _ c1)).trans c1, (hb.cell (World.block_lt_of_cell? w _ c2)).trans c2, (hb.cell (World.block_lt_of_cell? w _ c3)).trans c3⟩
theorem Lex_two (s : ByteArray) (hs : s.size ≤ maxLen) (w : World) (hT : Tabs w) :
    Calls Tryd.prog 10 #[.string s] w fun e w' => ∃ p cap, e = .returned (.tuple #[.slice p (lexL s.data.toList).1.length cap, .int .i64 (lexL s.data.toList).2.1, .int .i64 (lexL s.data.toList).2.2]) ∧ Tks2 w' p (lexL s.data.toList).1 ∧ Below w.heap.size w w' :=
  (Lex_at s hs w hT).mono fun e w' ⟨v, h1, h2, h3⟩ => by
    obtain ⟨p, cap, rfl, h⟩ := h2.two
    exact ⟨p, cap, h1, h, h3⟩
theorem more_blanks (j : Nat) (b : UInt8) : txt (List.replicate j b) ++ (⟨#[b]⟩ : ByteArray) = txt (List.replicate (j + 1) b) := by
  rw [txt_app, List.replicate_succ']
theorem Lex_ahead (s : ByteArray) (hs : s.size ≤ 4076) (j : Nat) (hj : j < 9) (b : UInt8) (hb : b = 32 ∨ b = 9) (w : World) (hT : Tabs w) :
    Calls Tryd.prog 10 #[.string (txt (List.replicate j b) ++ s)] w fun e w' => ∃ p cap, e = .returned (.tuple #[.slice p (lexL s.data.toList).1.length cap, .int .i64 ((if (lexL s.data.toList).2.2 = 0 then 0 else (lexL s.data.toList).2.1 + j : Nat) : Int), .int .i64 (lexL s.data.toList).2.2]) ∧ Tks2 w' p ((lexL s.data.toList).1.map (mvK j)) ∧ Below w.heap.size w w' := by
  have hl : s.data.toList.length = s.size := Array.length_toList
  have e1 : (txt (List.replicate j b) ++ s).data.toList = List.replicate j b ++ s.data.toList := by
    rw [Joins.data_append, txt_list]
  have := Lex_two (txt (List.replicate j b) ++ s) (by rw [ByteArray.size_append, txt_size, List.length_replicate]; unfold maxLen; omega) w hT
  rw [e1, lex_ahead _ b hb j (by omega)] at this
  dsimp only at this
  rw [List.length_map] at this
  exact this
set_option maxRecDepth 100000 in
theorem Lex_behind (s : ByteArray) (hs : s.size ≤ 4076) (b : UInt8) (hb : b = 32 ∨ b = 9) (w : World) (hT : Tabs w) :
    Calls Tryd.prog 10 #[.string (s ++ ⟨#[b]⟩)] w fun e w' => (∃ (p : Option Addr) (n cap : Nat) (a f : Int), e = .returned (.tuple #[.slice p n cap, .int .i64 a, .int .i64 f]) ∧ ((lexL s.data.toList).2.2 = 0 → n = (lexL s.data.toList).1.length ∧ f = 0 ∧ Tks2 w' p (lexL s.data.toList).1)) ∧ Below w.heap.size w w' := by
  have hl : s.data.toList.length = s.size := Array.length_toList
  have e1 : (s ++ (⟨#[b]⟩ : ByteArray)).data.toList = s.data.toList ++ [b] := by
    rw [Joins.data_append]
  have hz : (s ++ (⟨#[b]⟩ : ByteArray)).size = s.size + 1 := by rw [ByteArray.size_append]; rfl
  have hm : (s ++ (⟨#[b]⟩ : ByteArray)).size ≤ maxLen := by rw [hz]; unfold maxLen; omega
  clear hz
  generalize s ++ (⟨#[b]⟩ : ByteArray) = Z at *
  refine (Lex_two Z hm w hT).mono ?_
  rw [e1]
  rintro e w' ⟨p, cap, rfl, ht, hb'⟩
  refine ⟨⟨p, _, cap, _, _, rfl, fun h0 => ?_⟩, hb'⟩
  have := lex_behind s.data.toList b hb (by omega) h0
  rw [this] at ht ⊢
  exact ⟨rfl, h0, ht⟩

end Go.Proofs.YtdnlnghgjjiajaaDoor
