/-
  A text's bytes: Encode of the document.
-/
import Derived.Test.YtokkmjcpjjiaaaaDoorEn3
import Derived.Laws.IdiomStrings
namespace Go.Proofs.YtokkmjcpjjiaaaaDoor
open Go.RowKit
set_option linter.unusedSimpArgs false
set_option linter.unusedVariables false

/-- The bytes of a text that was just made a slice. -/
theorem text_cells (w : World) (s : ByteArray) (C : Nat) (fr : Nat × Nat) : ∀ j u, (Lib.strCells s)[j]? = some u → (w.drew.alloc (.cells (bytesRow s C) 5 fr)).cell? ((⟨w.heap.size, 0, none⟩ : Addr).add j) = some u := by
  intro j u hu
  have hj : j < s.data.size := by
    rcases Nat.lt_or_ge j s.data.size with h | h
    · exact h
    · rw [List.getElem?_eq_none (by simpa [Lib.strCells] using h)] at hu
      cases hu
  have hadd : (⟨w.heap.size, 0, none⟩ : Addr).add j = ⟨w.heap.size, j, none⟩ := by unfold Addr.add; split <;> simp_all
  rw [hadd]
  have hn : (w.drew.alloc (.cells (bytesRow s C) 5 fr)).heap[w.heap.size]? = some (.cells (bytesRow s C) 5 fr) := by
    show (w.heap.push _)[w.heap.size]? = _
    simp
  simp only [World.cell?, hn]
  have hb := bytesRow_at s C j hj
  simp [Lib.strCells] at hu
  obtain ⟨x, hx, rfl⟩ := hu
  rw [Array.getElem?_eq_getElem hj] at hx
  cases hx
  simpa using hb

set_option maxRecDepth 100000 in
set_option maxHeartbeats 2000000 in
theorem renc_3 (b : Bool) (n : Int) (s : ByteArray) (p : Option Addr) (l c : Nat) (hs : s.size ≤ 4096) (w : World) (hR : ∀ w', Below w.heap.size w w' → Calls Tryd.prog 13 #[.agg #[.int .i64 3, .bool b, .int .i64 n, .string s, .slice p l c]] w' fun e w'' => e = .returned (.bool true) ∧ Below w'.heap.size w' w'') :
    Calls Tryd.prog 16 #[.agg #[.int .i64 3, .bool b, .int .i64 n, .string s, .slice p l c]] w fun e w' => ∃ v, e = .returned v ∧ w'.ownsRow w.heap.size 5 1 v (([Value.int .u8 3] ++ nb s.size 4) ++ Lib.strCells s).length (([Value.int .u8 3] ++ nb s.size 4) ++ Lib.strCells s) ∧ Below w.heap.size w w' := by
  obtain ⟨i0, hi0, hz0, hz1, hz2⟩ := info_parts info5
  have hbx := BoxAt.new w 3 b n s p l c rfl
  have hr := hR _ (below_new w (.cells #[.int .i64 3, .bool b, .int .i64 n, .string s, .slice p l c] 25))
  clear hR
  replace hr : Hid _ := hr
  go_enter Tryd.func16, Tryd.ntmps16
  go_wp2_with (first
    | (go_at_call 13; refine Calls.mono hr.out ?_; rintro e w1 ⟨rfl, g1⟩; have hw := below_on (below_new w _) g1; have hsz := hw.size; have B := hbx.below g1; have B' := B.alloc (.cells #[.int .u8 3] 5); have ho : (w1.alloc (.cells #[.int .u8 3] 5)).ownsRow w1.heap.size 5 1 (.slice (some ⟨w1.heap.size, 0, none⟩) 1 1) 1 [.int .u8 3] := World.ownsRow_lit w1 #[.int .u8 3] 1 (Nat.le_refl _) (by decide) rfl; have D := B; have D' := B'; obtain ⟨c0, c1, c2, c3, c4, -⟩ := D; obtain ⟨d0, d1, d2, d3, d4, -⟩ := D')
    | (go_at_call 49; refine Calls.mono (put_any w1.heap.size _ 1 _ _ 4 _ ho (by simp) (by omega) (by omega)) ?_; rintro e w2 ⟨v2, rfl, ho2, g2⟩; have hsz2 := g2.size; have E := B'.under g2 B.lt; obtain ⟨f0, f1, f2, f3, f4, -⟩ := E; have hcv := run_bytes_of_string (P := Tryd.prog) w2 9 28 5 s Tryd.underlying9 Tryd.underlying28 Tryd.underlying5; generalize grownCap w2 s.size 0 5 = C at hcv)
    | (at_builtin; (refine wpList_append_own_at _ rfl _ _ 28 rfl w1.heap.size 5 i0 (.int .u8 0) 1 1 Tryd.underlying28 hi0 hz0 hz1 hz2 rfl (by decide) _ _ _ rfl (ho2.drew.alloc _) ⟨w2.heap.size, 0, none⟩ s.size C (Lib.strCells s) rfl (by rw [Lib.strCells_length, Nat.mul_one]) (text_cells w2 s C _) (by intro u hu; obtain ⟨x, _, rfl⟩ := List.mem_map.1 hu; rfl) (by unfold maxLen; omega) (by omega) (by simp at hsz2 ⊢; omega) ?_; intro v3 w3 ho3 hg3 hnil3 hloc3)))
  go_returns
  exact ⟨_, rfl, own_len (own_mono ho3 hsz), (((hw.alloc hsz _).trans (g2.mono hsz)).drew.alloc (by simp at hsz2 ⊢; omega) _).grown hg3 (by simp at hsz2 ⊢; omega) (fun k hk => Nat.le_trans hsz (ho2.lt k hk).1)⟩
end Go.Proofs.YtokkmjcpjjiaaaaDoor
