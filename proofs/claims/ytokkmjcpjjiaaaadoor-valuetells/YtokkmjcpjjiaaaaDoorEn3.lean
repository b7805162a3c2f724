/-
  A text's bytes: Encode of the program.
-/
import Derived.Test.YtokkmjcpjjiaaaaDoorEnc
namespace Go.Proofs.YtokkmjcpjjiaaaaDoor
open Go.RowKit
set_option linter.unusedSimpArgs false
set_option linter.unusedVariables false

theorem BoxAt.under {w w' : World} {B x : Nat} {k : Int} {b : Bool} {n : Int} {s : ByteArray} {p : Option Addr} {l c : Nat} (h : BoxAt w x k b n s p l c) (hb : Below B w w') (hx : x < B) : BoxAt w' x k b n s p l c :=
  ⟨(hb.cell hx).trans h.c0, (hb.cell hx).trans h.c1, (hb.cell hx).trans h.c2, (hb.cell hx).trans h.c3, (hb.cell hx).trans h.c4, fun j => (hb.frozen hx).trans (h.fr j)⟩
theorem own_len {w : World} {base : Nat} {e : TypeId} {v : Value} {n : Nat} {xs : List Value} (h : w.ownsRow base e 1 v n xs) : w.ownsRow base e 1 v xs.length xs := by
  have e' : xs.length = n := by simpa using h.1
  rw [e']
  exact h
theorem own_mono {w : World} {base base' : Nat} {e : TypeId} {size : Nat} {v : Value} {n : Nat} {xs : List Value} (h : w.ownsRow base e size v n xs) (hb : base' ≤ base) : w.ownsRow base' e size v n xs := by
  obtain ⟨h1, h2 | ⟨g, cap, cur, e1, e2, e3⟩⟩ := h
  · exact ⟨h1, .inl h2⟩
  · exact ⟨h1, .inr ⟨g, cap, cur, e1, Nat.le_trans hb e2, e3⟩⟩

set_option maxRecDepth 100000 in
set_option maxHeartbeats 2000000 in
theorem enc_3 (b : Bool) (n : Int) (s : ByteArray) (p : Option Addr) (l c : Nat) (hs : s.size ≤ 4096) (w : World) (hR : ∀ w', Below w.heap.size w w' → Calls Tryd.prog 12 #[.agg #[.int .i64 3, .bool b, .int .i64 n, .string s, .slice p l c]] w' fun e w'' => e = .returned (.bool true) ∧ Below w'.heap.size w' w'') :
    Calls Tryd.prog 11 #[.agg #[.int .i64 3, .bool b, .int .i64 n, .string s, .slice p l c]] w fun e w' => ∃ v, e = .returned v ∧ w'.ownsRow w.heap.size 5 1 v (([Value.int .u8 3] ++ nb s.size 4) ++ Lib.strCells s).length (([Value.int .u8 3] ++ nb s.size 4) ++ Lib.strCells s) ∧ Below w.heap.size w w' := by
  obtain ⟨i0, hi0, hz0, hz1, hz2⟩ := info_parts info5
  have hbx := BoxAt.new w 3 b n s p l c rfl
  have hr := hR _ (below_new w (.cells #[.int .i64 3, .bool b, .int .i64 n, .string s, .slice p l c] 25))
  clear hR
  replace hr : Hid _ := hr
  go_enter Tryd.func11, Tryd.ntmps11
  go_wp2_with (first
    | (go_at_call 12; refine Calls.mono hr.out ?_; rintro e w1 ⟨rfl, g1⟩; have hw := below_on (below_new w _) g1; have hsz := hw.size; have B := hbx.below g1; have B' := B.alloc (.cells #[.int .u8 3] 5); have ho : (w1.alloc (.cells #[.int .u8 3] 5)).ownsRow w1.heap.size 5 1 (.slice (some ⟨w1.heap.size, 0, none⟩) 1 1) 1 [.int .u8 3] := World.ownsRow_lit w1 #[.int .u8 3] 1 (Nat.le_refl _) (by decide) rfl; have D := B; have D' := B'; obtain ⟨c0, c1, c2, c3, c4, -⟩ := D; obtain ⟨d0, d1, d2, d3, d4, -⟩ := D')
    | (go_at_call 37; go_loud (refine Calls.mono (appendNumber_any w1.heap.size _ 1 _ _ 4 _ ho (by simp) (by omega) (by omega)) ?_; rintro e w2 ⟨v2, rfl, ho2, g2⟩; have hsz2 := g2.size; have E := B'.under g2 B.lt; obtain ⟨f0, f1, f2, f3, f4, -⟩ := E))
    | (at_builtin; go_loud (refine Lib.wpList_append_own_string _ rfl _ _ 28 9 rfl w1.heap.size 5 i0 Tryd.underlying28 Tryd.underlying9 hi0 hz0 hz1 hz2 _ _ _ rfl ho2 s rfl (by unfold maxLen; omega) (by omega) (by simp at hsz2; omega) ?_; intro v3 w3 ho3 hg3 hnil3)))
  go_returns
  exact ⟨_, rfl, own_len (own_mono ho3 hsz), (((hw.alloc hsz _).trans (g2.mono hsz)).grown hg3 (by simp at hsz2; omega) (fun k hk => Nat.le_trans hsz (ho2.lt k hk).1))⟩
end Go.Proofs.YtokkmjcpjjiaaaaDoor
