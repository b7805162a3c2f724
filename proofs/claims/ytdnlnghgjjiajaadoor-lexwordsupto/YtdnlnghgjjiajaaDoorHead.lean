/-
  The live question.
-/
import Derived.Test.YtdnlnghgjjiajaaDoorLex
import Derived.KernelRfl
namespace Go.Proofs.YtdnlnghgjjiajaaDoor
open Go.RowKit
set_option linter.unusedSimpArgs false
set_option linter.unusedVariables false

/-- A list of words, as it lies in memory. -/
def TksAt (w : World) (v : Value) (L : List Tk) : Prop :=
  (v = .slice none 0 0 ∧ L = []) ∨ ∃ g cap, v = .slice (some ⟨g, 0, none⟩) L.length cap ∧ ∀ i, i < L.length →
    w.cell? ⟨g, i * 4, none⟩ = some (.int .i64 (L.getD i default).k) ∧ w.cell? ⟨g, i * 4 + 1, none⟩ = some (.string (txt (L.getD i default).t)) ∧
    w.cell? ⟨g, i * 4 + 2, none⟩ = some (.int .i64 (L.getD i default).n) ∧ w.cell? ⟨g, i * 4 + 3, none⟩ = some (.int .i64 (L.getD i default).at')
theorem tks_of {w : World} {base : Nat} {v : Value} {L : List Tk} (h : w.ownsRow base 32 4 v L.length (rowK L)) : TksAt w v L := by
  have hh := h
  obtain ⟨h1, ⟨e1, e2⟩ | ⟨g, cap, cur, e1, e2⟩⟩ := hh
  · exact .inl ⟨e1, List.length_eq_zero_iff.1 e2⟩
  · subst e1
    refine .inr ⟨g, cap, rfl, fun i hi => ?_⟩
    have hc : ∀ q, q < 4 → w.cell? ⟨g, i * 4 + q, none⟩ = (cellsK (L.getD i default))[q]? := fun q hq => by
      rw [h.cellAt (i * 4 + q) (by omega), rowK_at L i q hi hq]
    exact ⟨hc 0 (by omega), hc 1 (by omega), hc 2 (by omega), hc 3 (by omega)⟩
theorem TksAt.below {w w' : World} {v : Value} {L : List Tk} (h : TksAt w v L) (hb : Below w.heap.size w w') : TksAt w' v L := by
  rcases h with h | ⟨g, cap, e, h⟩
  · exact .inl h
  · refine .inr ⟨g, cap, e, fun i hi => ?_⟩
    obtain ⟨c0, c1, c2, c3⟩ := h i hi
    exact ⟨(hb.cell (World.block_lt_of_cell? w _ c0)).trans c0, (hb.cell (World.block_lt_of_cell? w _ c1)).trans c1, (hb.cell (World.block_lt_of_cell? w _ c2)).trans c2, (hb.cell (World.block_lt_of_cell? w _ c3)).trans c3⟩
theorem Lex_at (s : ByteArray) (hs : s.size ≤ maxLen) (w : World) (hT : Tabs w) :
    Calls Tryd.prog 10 #[.string s] w fun e w' => ∃ v, e = .returned (.tuple #[v, .int .i64 (lexL s.data.toList).2.1, .int .i64 (lexL s.data.toList).2.2]) ∧ TksAt w' v (lexL s.data.toList).1 ∧ Below w.heap.size w w' :=
  (Lex_any s hs w hT).mono fun e w' ⟨v, h1, h2, h3⟩ => ⟨v, h1, tks_of h2, h3⟩
set_option maxRecDepth 100000 in
theorem lex_live : lexL [97, 32, 60, 61, 32, 49, 50] = ([⟨1, [97], 0, 0⟩, ⟨5, [60, 61], 0, 2⟩, ⟨3, [], 12, 5⟩], 0, 0) := by kernel_rfl
theorem key_live : keyL [109, 97, 116, 99, 104] = [77, 65, 84, 67, 72] := by kernel_rfl
set_option maxRecDepth 100000 in
theorem head_any (w : World) (hT : Tabs w) : Calls Tryd.prog 9 #[] w fun e w' => e = .returned (.bool true) ∧ Below w.heap.size w w' := by
  have hL := Lex_at ⟨#[97, 32, 60, 61, 32, 49, 50]⟩ (by decide) w hT
  have hK := fun w hT => Key_any ⟨#[109, 97, 116, 99, 104]⟩ (by decide) w hT
  rw [lex_live] at hL
  rw [key_live, show txt [77, 65, 84, 67, 72] = ⟨#[77, 65, 84, 67, 72]⟩ from rfl] at hK
  dsimp only at hL
  replace hL : Hid _ := hL
  replace hK : Hid _ := hK
  go_enter Tryd.func9, Tryd.ntmps9
  go_wp2_with (first
    | (go_at_call 10; refine Calls.mono hL.out ?_; rintro e w1 ⟨v, rfl, ht, hb1⟩; rcases ht with ⟨_, ht⟩ | ⟨g, cap, rfl, hc⟩; (cases ht); have x1 : w1.cell? ⟨g, 5, none⟩ = some (.string ⟨#[60, 61]⟩) := (hc 1 (by decide)).2.1; have x2 : w1.cell? ⟨g, 10, none⟩ = some (.int .i64 12) := (hc 2 (by decide)).2.2.1; replace hc : Hid _ := hc)
    | (go_at_call 13; refine Calls.mono (hK.out _ (hT.below hb1)) ?_; rintro e w2 ⟨rfl, hb2⟩))
  go_returns
  exact ⟨rfl, below_on hb1 hb2⟩
end Go.Proofs.YtdnlnghgjjiajaaDoor
