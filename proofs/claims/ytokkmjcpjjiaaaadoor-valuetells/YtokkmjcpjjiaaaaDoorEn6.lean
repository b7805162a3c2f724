/-
  A path's bytes: Encode of the program and of the document.
-/
import Derived.Test.YtokkmjcpjjiaaaaDoorEn4
namespace Go.Proofs.YtokkmjcpjjiaaaaDoor
open Go.RowKit
set_option linter.unusedSimpArgs false
set_option linter.unusedVariables false

/-- The bytes of a path's numbers. -/
def pb (z : List Int) : List Value := z.flatMap fun x => nb (IntKind.u64.wrap x) 8
theorem pb_take (z : List Int) (j : Nat) (h : j < z.length) : pb (z.take (j + 1)) = pb (z.take j) ++ nb (IntKind.u64.wrap (z.getD j 0)) 8 := by
  unfold pb
  rw [List.take_succ_eq_append_getElem h]
  simp only [List.flatMap_append, List.flatMap_cons, List.flatMap_nil, List.append_nil, List.getD, List.getElem?_eq_getElem h, Option.getD_some]

set_option maxRecDepth 100000 in
set_option maxHeartbeats 2000000 in
theorem enc_6 (b : Bool) (n : Int) (s : ByteArray) (p : Option Addr) (l c : Nat) (z : List Int) (h1 : z.length = l) (l1 : 1 ≤ l) (l9 : l ≤ 9) (w : World) (q : PathAt w p z) (hR : ∀ w', Below w.heap.size w w' → Calls Tryd.prog 12 #[.agg #[.int .i64 6, .bool b, .int .i64 n, .string s, .slice p l c]] w' fun e w'' => e = .returned (.bool true) ∧ Below w'.heap.size w' w'') :
    Calls Tryd.prog 11 #[.agg #[.int .i64 6, .bool b, .int .i64 n, .string s, .slice p l c]] w fun e w' => ∃ v, e = .returned v ∧ w'.ownsRow w.heap.size 5 1 v (([Value.int .u8 6] ++ [Value.int .u8 (l : Int)]) ++ pb z).length (([Value.int .u8 6] ++ [Value.int .u8 (l : Int)]) ++ pb z) ∧ Below w.heap.size w w' := by
  obtain ⟨i0, hi0, hz0, hz1, hz2⟩ := info_parts info5
  have hbx := BoxAt.new w 6 b n s p l c rfl
  have hr := hR _ (below_new w (.cells #[.int .i64 6, .bool b, .int .i64 n, .string s, .slice p l c] 25))
  clear hR
  replace hr : Hid _ := hr
  replace q : Hid _ := q
  go_enter Tryd.func11, Tryd.ntmps11
  go_wp2_with (first
    | (go_at_call 12; refine Calls.mono hr.out ?_; rintro e w1 ⟨rfl, g1⟩; have hw := below_on (below_new w _) g1; have hsz := hw.size; have B := hbx.below g1; have B' := B.alloc (.cells #[.int .u8 6] 5); have ho : (w1.alloc (.cells #[.int .u8 6] 5)).ownsRow w1.heap.size 5 1 (.slice (some ⟨w1.heap.size, 0, none⟩) 1 1) 1 [.int .u8 6] := World.ownsRow_lit w1 #[.int .u8 6] 1 (Nat.le_refl _) (by decide) rfl; have D := B; have D' := B'; obtain ⟨c0, c1, c2, c3, c4, -⟩ := D; obtain ⟨d0, d1, d2, d3, d4, -⟩ := D')
    | (at_builtin; refine wpList_append_own_at _ rfl _ _ 28 rfl w1.heap.size 5 i0 (.int .u8 0) 1 1 Tryd.underlying28 hi0 hz0 hz1 hz2 rfl (by decide) _ _ _ rfl (ho.alloc _) ⟨w1.heap.size + 1, 0, none⟩ 1 1 [.int .u8 (l : Int)] rfl rfl (by simpa using cell_one_new (w1.alloc (.cells #[.int .u8 6] 5)) (.int .u8 (l : Int)) 5) (by simp [Value.oneCell']) (by decide) (by decide) (by simp; omega) ?_; intro v4 w4 ho4 hg4 hnil4 hloc4; have G4 : Below w1.heap.size w1 w4 := (((Below.refl _ _).alloc (Nat.le_refl _) _).alloc (by simp) _).grown hg4 (by simp; omega) (fun k hk => (ho.lt k hk).1); have E := B.under G4 B.lt; obtain ⟨f0, f1, f2, f3, f4, -⟩ := E; clear hg4 hnil4 hloc4))
  clear c0 c1 c2 c3 c4 d0 d1 d2 d3 d4 f0 f1 f2 f3 f4 B' ho hr hbx
  replace B : Hid _ := B
  go_loopw [3, 56] (fun x i wr => ∃ j : Nat, j ≤ l ∧ i = .int .i64 j ∧ wr.ownsRow w1.heap.size 5 1 x (2 + 8 * j) (([Value.int .u8 6] ++ [Value.int .u8 (l : Int)]) ++ pb (z.take j)) ∧ Below w1.heap.size w1 wr) (fun _ i _ => l - (intOf i).toNat)
  case atStart => exact ⟨0, by omega, rfl, by simpa [pb] using ho4, G4⟩
  case round =>
    obtain ⟨j, j1, rfl, ho, hb⟩ := hrel
    have hszr := hb.size
    have hwr : Below w.heap.size w wr := hw.trans (hb.mono hsz)
    obtain ⟨f0, f1, f2, f3, f4, -⟩ := BoxAt.under B.out hb (BoxAt.lt B.out)
    clear ho4 G4
    by_cases hj : j < l
    · obtain ⟨x, o, rfl, r⟩ := PathAt.num (zs := z) (PathAt.below (zs := z) q.out hwr) j (by omega)
      have HP : Hid (pb (z.take (j + 1)) = pb (z.take j) ++ nb (IntKind.u64.wrap (z.getD j 0)) 8) := pb_take z j (by omega)
      clear q
      generalize z.getD j 0 = u at *
      have HO : Hid _ := ho
      clear ho
      go_wp2_with (go_at_call 37; refine Calls.mono (appendNumber_any w1.heap.size _ (2 + 8 * j) _ _ 8 _ HO.out hszr (by omega) (by omega)) ?_; rintro e w5 ⟨v5, rfl, ho5, g5⟩)
      refine ⟨⟨j + 1, by omega, by first | go_num | (congr 1; omega), ?_, hb.trans g5⟩, by simp [intOf]; omega⟩
      rw [HP.out, ← List.append_assoc, Nat.mul_add, ← Nat.add_assoc]
      exact ho5
    · have ej : j = l := by omega
      subst ej
      rw [List.take_of_length_le (by omega)] at ho
      clear q
      replace ho : Hid _ := ho
      go_wp2_with fail
      go_returns
      exact ⟨_, rfl, own_len (own_mono ho.out hsz), hwr⟩

set_option maxRecDepth 100000 in
set_option maxHeartbeats 2000000 in
theorem renc_6 (b : Bool) (n : Int) (s : ByteArray) (p : Option Addr) (l c : Nat) (z : List Int) (h1 : z.length = l) (l1 : 1 ≤ l) (l9 : l ≤ 9) (w : World) (q : PathAt w p z) (hR : ∀ w', Below w.heap.size w w' → Calls Tryd.prog 13 #[.agg #[.int .i64 6, .bool b, .int .i64 n, .string s, .slice p l c]] w' fun e w'' => e = .returned (.bool true) ∧ Below w'.heap.size w' w'') :
    Calls Tryd.prog 16 #[.agg #[.int .i64 6, .bool b, .int .i64 n, .string s, .slice p l c]] w fun e w' => ∃ v, e = .returned v ∧ w'.ownsRow w.heap.size 5 1 v (([Value.int .u8 6] ++ [Value.int .u8 (l : Int)]) ++ pb z).length (([Value.int .u8 6] ++ [Value.int .u8 (l : Int)]) ++ pb z) ∧ Below w.heap.size w w' := by
  obtain ⟨i0, hi0, hz0, hz1, hz2⟩ := info_parts info5
  have hbx := BoxAt.new w 6 b n s p l c rfl
  have hr := hR _ (below_new w (.cells #[.int .i64 6, .bool b, .int .i64 n, .string s, .slice p l c] 25))
  clear hR
  replace hr : Hid _ := hr
  replace q : Hid _ := q
  go_enter Tryd.func16, Tryd.ntmps16
  go_wp2_with (first
    | (go_at_call 13; refine Calls.mono hr.out ?_; rintro e w1 ⟨rfl, g1⟩; have hw := below_on (below_new w _) g1; have hsz := hw.size; have B := hbx.below g1; have B' := B.alloc (.cells #[.int .u8 6] 5); have ho : (w1.alloc (.cells #[.int .u8 6] 5)).ownsRow w1.heap.size 5 1 (.slice (some ⟨w1.heap.size, 0, none⟩) 1 1) 1 [.int .u8 6] := World.ownsRow_lit w1 #[.int .u8 6] 1 (Nat.le_refl _) (by decide) rfl; have D := B; have D' := B'; obtain ⟨c0, c1, c2, c3, c4, -⟩ := D; obtain ⟨d0, d1, d2, d3, d4, -⟩ := D')
    | (at_builtin; refine wpList_append_own_at _ rfl _ _ 28 rfl w1.heap.size 5 i0 (.int .u8 0) 1 1 Tryd.underlying28 hi0 hz0 hz1 hz2 rfl (by decide) _ _ _ rfl (ho.alloc _) ⟨w1.heap.size + 1, 0, none⟩ 1 1 [.int .u8 (l : Int)] rfl rfl (by simpa using cell_one_new (w1.alloc (.cells #[.int .u8 6] 5)) (.int .u8 (l : Int)) 5) (by simp [Value.oneCell']) (by decide) (by decide) (by simp; omega) ?_; intro v4 w4 ho4 hg4 hnil4 hloc4; have G4 : Below w1.heap.size w1 w4 := (((Below.refl _ _).alloc (Nat.le_refl _) _).alloc (by simp) _).grown hg4 (by simp; omega) (fun k hk => (ho.lt k hk).1); have E := B.under G4 B.lt; obtain ⟨f0, f1, f2, f3, f4, -⟩ := E; clear hg4 hnil4 hloc4))
  clear c0 c1 c2 c3 c4 d0 d1 d2 d3 d4 f0 f1 f2 f3 f4 B' ho hr hbx
  replace B : Hid _ := B
  go_loopw [4, 5] (fun x i wr => ∃ j : Nat, j ≤ l ∧ i = .int .i64 j ∧ wr.ownsRow w1.heap.size 5 1 x (2 + 8 * j) (([Value.int .u8 6] ++ [Value.int .u8 (l : Int)]) ++ pb (z.take j)) ∧ Below w1.heap.size w1 wr) (fun _ i _ => l - (intOf i).toNat)
  case atStart => exact ⟨0, by omega, rfl, by simpa [pb] using ho4, G4⟩
  case round =>
    obtain ⟨j, j1, rfl, ho, hb⟩ := hrel
    have hszr := hb.size
    have hwr : Below w.heap.size w wr := hw.trans (hb.mono hsz)
    obtain ⟨f0, f1, f2, f3, f4, -⟩ := BoxAt.under B.out hb (BoxAt.lt B.out)
    clear ho4 G4
    by_cases hj : j < l
    · obtain ⟨x, o, rfl, r⟩ := PathAt.num (zs := z) (PathAt.below (zs := z) q.out hwr) j (by omega)
      have HP : Hid (pb (z.take (j + 1)) = pb (z.take j) ++ nb (IntKind.u64.wrap (z.getD j 0)) 8) := pb_take z j (by omega)
      clear q
      generalize z.getD j 0 = u at *
      have HO : Hid _ := ho
      clear ho
      go_wp2_with (go_at_call 49; refine Calls.mono (put_any w1.heap.size _ (2 + 8 * j) _ _ 8 _ HO.out hszr (by omega) (by omega)) ?_; rintro e w5 ⟨v5, rfl, ho5, g5⟩)
      refine ⟨⟨j + 1, by omega, by first | go_num | (congr 1; omega), ?_, hb.trans g5⟩, by simp [intOf]; omega⟩
      rw [HP.out, ← List.append_assoc, Nat.mul_add, ← Nat.add_assoc]
      exact ho5
    · have ej : j = l := by omega
      subst ej
      rw [List.take_of_length_le (by omega)] at ho
      clear q
      replace ho : Hid _ := ho
      go_wp2_with fail
      go_returns
      exact ⟨_, rfl, own_len (own_mono ho.out hsz), hwr⟩
end Go.Proofs.YtokkmjcpjjiaaaaDoor
