/-
  A value's bytes, kind by kind: Encode of the program and of the document.
-/
import Derived.Test.YtokkmjcpjjiaaaaDoorNum
import Derived.Test.YtokkmjcpjjiaaaaDoorCmp
import Derived.Laws.OwnMore
import Derived.Lib.AppendStr
namespace Go.Proofs.YtokkmjcpjjiaaaaDoor
open Go.RowKit
set_option linter.unusedSimpArgs false
set_option linter.unusedVariables false

set_option maxRecDepth 100000 in
set_option maxHeartbeats 2000000 in
theorem enc_0 (b : Bool) (n : Int) (s : ByteArray) (p : Option Addr) (l c : Nat) (w : World) (hR : ∀ w', Below w.heap.size w w' → Calls Tryd.prog 12 #[.agg #[.int .i64 0, .bool b, .int .i64 n, .string s, .slice p l c]] w' fun e w'' => e = .returned (.bool true) ∧ Below w'.heap.size w' w'') :
    Calls Tryd.prog 11 #[.agg #[.int .i64 0, .bool b, .int .i64 n, .string s, .slice p l c]] w fun e w' => ∃ v, e = .returned v ∧ w'.ownsRow w.heap.size 5 1 v ([Value.int .u8 0]).length ([Value.int .u8 0]) ∧ Below w.heap.size w w' := by
  have hbx := BoxAt.new w 0 b n s p l c rfl
  have hr := hR _ (below_new w (.cells #[.int .i64 0, .bool b, .int .i64 n, .string s, .slice p l c] 25))
  clear hR
  replace hr : Hid _ := hr
  go_enter Tryd.func11, Tryd.ntmps11
  go_wp2_with (first
    | (go_at_call 12; refine Calls.mono hr.out ?_; rintro e w1 ⟨rfl, g1⟩; have hw := below_on (below_new w _) g1; have hsz := hw.size; have B := hbx.below g1; have B' := B.alloc (.cells #[.int .u8 0] 5); have ho : (w1.alloc (.cells #[.int .u8 0] 5)).ownsRow w.heap.size 5 1 (.slice (some ⟨w1.heap.size, 0, none⟩) 1 1) 1 [.int .u8 0] := World.ownsRow_lit w1 #[.int .u8 0] 1 hsz (by decide) rfl; have D := B; have D' := B'; obtain ⟨c0, c1, c2, c3, c4, -⟩ := D; obtain ⟨d0, d1, d2, d3, d4, -⟩ := D'))
  go_returns
  exact ⟨_, rfl, ho, below_on hw (below_new _ _)⟩

set_option maxRecDepth 100000 in
set_option maxHeartbeats 2000000 in
theorem enc_1 (b : Bool) (n : Int) (s : ByteArray) (p : Option Addr) (l c : Nat) (w : World) (hR : ∀ w', Below w.heap.size w w' → Calls Tryd.prog 12 #[.agg #[.int .i64 1, .bool b, .int .i64 n, .string s, .slice p l c]] w' fun e w'' => e = .returned (.bool true) ∧ Below w'.heap.size w' w'') :
    Calls Tryd.prog 11 #[.agg #[.int .i64 1, .bool b, .int .i64 n, .string s, .slice p l c]] w fun e w' => ∃ v, e = .returned v ∧ w'.ownsRow w.heap.size 5 1 v ([Value.int .u8 1] ++ [Value.int .u8 (bitI b)]).length ([Value.int .u8 1] ++ [Value.int .u8 (bitI b)]) ∧ Below w.heap.size w w' := by
  have hbx := BoxAt.new w 1 b n s p l c rfl
  have hr := hR _ (below_new w (.cells #[.int .i64 1, .bool b, .int .i64 n, .string s, .slice p l c] 25))
  clear hR
  replace hr : Hid _ := hr
  go_enter Tryd.func11, Tryd.ntmps11
  obtain ⟨i0, hi0, hz0, hz1, hz2⟩ := info_parts info5
  go_wp2_with (first
    | (go_at_call 12; refine Calls.mono hr.out ?_; rintro e w1 ⟨rfl, g1⟩; have hw := below_on (below_new w _) g1; have hsz := hw.size; have B := hbx.below g1; have B' := B.alloc (.cells #[.int .u8 1] 5); have ho : (w1.alloc (.cells #[.int .u8 1] 5)).ownsRow w.heap.size 5 1 (.slice (some ⟨w1.heap.size, 0, none⟩) 1 1) 1 [.int .u8 1] := World.ownsRow_lit w1 #[.int .u8 1] 1 hsz (by decide) rfl; have D := B; have D' := B'; obtain ⟨c0, c1, c2, c3, c4, -⟩ := D; obtain ⟨d0, d1, d2, d3, d4, -⟩ := D')
    | (go_at_call 36; refine (bit_any _ _).mono ?_; rintro e wz ⟨rfl, rfl⟩)
    | (at_builtin; refine wpList_append_own_at _ rfl _ _ 28 rfl w.heap.size 5 i0 (.int .u8 0) 1 1 Tryd.underlying28 hi0 hz0 hz1 hz2 rfl (by decide) _ _ _ rfl (ho.alloc _) ⟨w1.heap.size + 1, 0, none⟩ 1 1 [.int .u8 (bitI b)] rfl rfl (by simpa using cell_one_new (w1.alloc (.cells #[.int .u8 1] 5)) (.int .u8 (bitI b)) 5) (by simp [Value.oneCell']) (by decide) (by decide) (by simp; omega) ?_; intro v4 w4 hown4 hgr4 hnil4 hloc4))
  go_returns
  exact ⟨_, rfl, hown4, ((hw.alloc hsz _).alloc (by simp; omega) _).grown hgr4 (by simp; omega) (fun k hk => (ho.lt k hk).1)⟩

set_option maxRecDepth 100000 in
set_option maxHeartbeats 2000000 in
theorem enc_2 (b : Bool) (n : Int) (s : ByteArray) (p : Option Addr) (l c : Nat) (w : World) (hR : ∀ w', Below w.heap.size w w' → Calls Tryd.prog 12 #[.agg #[.int .i64 2, .bool b, .int .i64 n, .string s, .slice p l c]] w' fun e w'' => e = .returned (.bool true) ∧ Below w'.heap.size w' w'') :
    Calls Tryd.prog 11 #[.agg #[.int .i64 2, .bool b, .int .i64 n, .string s, .slice p l c]] w fun e w' => ∃ v, e = .returned v ∧ w'.ownsRow w.heap.size 5 1 v ([Value.int .u8 2] ++ nb (IntKind.u64.wrap n) 8).length ([Value.int .u8 2] ++ nb (IntKind.u64.wrap n) 8) ∧ Below w.heap.size w w' := by
  have hbx := BoxAt.new w 2 b n s p l c rfl
  have hr := hR _ (below_new w (.cells #[.int .i64 2, .bool b, .int .i64 n, .string s, .slice p l c] 25))
  clear hR
  replace hr : Hid _ := hr
  go_enter Tryd.func11, Tryd.ntmps11
  go_wp2_with (first
    | (go_at_call 12; refine Calls.mono hr.out ?_; rintro e w1 ⟨rfl, g1⟩; have hw := below_on (below_new w _) g1; have hsz := hw.size; have B := hbx.below g1; have B' := B.alloc (.cells #[.int .u8 2] 5); have ho : (w1.alloc (.cells #[.int .u8 2] 5)).ownsRow w.heap.size 5 1 (.slice (some ⟨w1.heap.size, 0, none⟩) 1 1) 1 [.int .u8 2] := World.ownsRow_lit w1 #[.int .u8 2] 1 hsz (by decide) rfl; have D := B; have D' := B'; obtain ⟨c0, c1, c2, c3, c4, -⟩ := D; obtain ⟨d0, d1, d2, d3, d4, -⟩ := D')
    | (go_at_call 37; refine Calls.mono (appendNumber_any w.heap.size _ 1 _ _ 8 _ ho (by simp; omega) (by omega) (by omega)) ?_; rintro e w2 ⟨v2, rfl, ho2, g2⟩))
  go_returns
  exact ⟨_, rfl, ho2, (hw.alloc hsz _).trans g2⟩

set_option maxRecDepth 100000 in
set_option maxHeartbeats 2000000 in
theorem enc_4 (b : Bool) (n : Int) (s : ByteArray) (p : Option Addr) (l c : Nat) (w : World) (hR : ∀ w', Below w.heap.size w w' → Calls Tryd.prog 12 #[.agg #[.int .i64 4, .bool b, .int .i64 n, .string s, .slice p l c]] w' fun e w'' => e = .returned (.bool true) ∧ Below w'.heap.size w' w'') :
    Calls Tryd.prog 11 #[.agg #[.int .i64 4, .bool b, .int .i64 n, .string s, .slice p l c]] w fun e w' => ∃ v, e = .returned v ∧ w'.ownsRow w.heap.size 5 1 v ([Value.int .u8 4] ++ nb (IntKind.u64.wrap n) 8).length ([Value.int .u8 4] ++ nb (IntKind.u64.wrap n) 8) ∧ Below w.heap.size w w' := by
  have hbx := BoxAt.new w 4 b n s p l c rfl
  have hr := hR _ (below_new w (.cells #[.int .i64 4, .bool b, .int .i64 n, .string s, .slice p l c] 25))
  clear hR
  replace hr : Hid _ := hr
  go_enter Tryd.func11, Tryd.ntmps11
  go_wp2_with (first
    | (go_at_call 12; refine Calls.mono hr.out ?_; rintro e w1 ⟨rfl, g1⟩; have hw := below_on (below_new w _) g1; have hsz := hw.size; have B := hbx.below g1; have B' := B.alloc (.cells #[.int .u8 4] 5); have ho : (w1.alloc (.cells #[.int .u8 4] 5)).ownsRow w.heap.size 5 1 (.slice (some ⟨w1.heap.size, 0, none⟩) 1 1) 1 [.int .u8 4] := World.ownsRow_lit w1 #[.int .u8 4] 1 hsz (by decide) rfl; have D := B; have D' := B'; obtain ⟨c0, c1, c2, c3, c4, -⟩ := D; obtain ⟨d0, d1, d2, d3, d4, -⟩ := D')
    | (go_at_call 37; refine Calls.mono (appendNumber_any w.heap.size _ 1 _ _ 8 _ ho (by simp; omega) (by omega) (by omega)) ?_; rintro e w2 ⟨v2, rfl, ho2, g2⟩))
  go_returns
  exact ⟨_, rfl, ho2, (hw.alloc hsz _).trans g2⟩

set_option maxRecDepth 100000 in
set_option maxHeartbeats 2000000 in
theorem enc_5 (b : Bool) (n : Int) (s : ByteArray) (p : Option Addr) (l c : Nat) (w : World) (hR : ∀ w', Below w.heap.size w w' → Calls Tryd.prog 12 #[.agg #[.int .i64 5, .bool b, .int .i64 n, .string s, .slice p l c]] w' fun e w'' => e = .returned (.bool true) ∧ Below w'.heap.size w' w'') :
    Calls Tryd.prog 11 #[.agg #[.int .i64 5, .bool b, .int .i64 n, .string s, .slice p l c]] w fun e w' => ∃ v, e = .returned v ∧ w'.ownsRow w.heap.size 5 1 v ([Value.int .u8 5] ++ nb (IntKind.u64.wrap n) 8).length ([Value.int .u8 5] ++ nb (IntKind.u64.wrap n) 8) ∧ Below w.heap.size w w' := by
  have hbx := BoxAt.new w 5 b n s p l c rfl
  have hr := hR _ (below_new w (.cells #[.int .i64 5, .bool b, .int .i64 n, .string s, .slice p l c] 25))
  clear hR
  replace hr : Hid _ := hr
  go_enter Tryd.func11, Tryd.ntmps11
  go_wp2_with (first
    | (go_at_call 12; refine Calls.mono hr.out ?_; rintro e w1 ⟨rfl, g1⟩; have hw := below_on (below_new w _) g1; have hsz := hw.size; have B := hbx.below g1; have B' := B.alloc (.cells #[.int .u8 5] 5); have ho : (w1.alloc (.cells #[.int .u8 5] 5)).ownsRow w.heap.size 5 1 (.slice (some ⟨w1.heap.size, 0, none⟩) 1 1) 1 [.int .u8 5] := World.ownsRow_lit w1 #[.int .u8 5] 1 hsz (by decide) rfl; have D := B; have D' := B'; obtain ⟨c0, c1, c2, c3, c4, -⟩ := D; obtain ⟨d0, d1, d2, d3, d4, -⟩ := D')
    | (go_at_call 37; refine Calls.mono (appendNumber_any w.heap.size _ 1 _ _ 8 _ ho (by simp; omega) (by omega) (by omega)) ?_; rintro e w2 ⟨v2, rfl, ho2, g2⟩))
  go_returns
  exact ⟨_, rfl, ho2, (hw.alloc hsz _).trans g2⟩

set_option maxRecDepth 100000 in
set_option maxHeartbeats 2000000 in
theorem renc_0 (b : Bool) (n : Int) (s : ByteArray) (p : Option Addr) (l c : Nat) (w : World) (hR : ∀ w', Below w.heap.size w w' → Calls Tryd.prog 13 #[.agg #[.int .i64 0, .bool b, .int .i64 n, .string s, .slice p l c]] w' fun e w'' => e = .returned (.bool true) ∧ Below w'.heap.size w' w'') :
    Calls Tryd.prog 16 #[.agg #[.int .i64 0, .bool b, .int .i64 n, .string s, .slice p l c]] w fun e w' => ∃ v, e = .returned v ∧ w'.ownsRow w.heap.size 5 1 v ([Value.int .u8 0]).length ([Value.int .u8 0]) ∧ Below w.heap.size w w' := by
  have hbx := BoxAt.new w 0 b n s p l c rfl
  have hr := hR _ (below_new w (.cells #[.int .i64 0, .bool b, .int .i64 n, .string s, .slice p l c] 25))
  clear hR
  replace hr : Hid _ := hr
  go_enter Tryd.func16, Tryd.ntmps16
  go_wp2_with (first
    | (go_at_call 13; refine Calls.mono hr.out ?_; rintro e w1 ⟨rfl, g1⟩; have hw := below_on (below_new w _) g1; have hsz := hw.size; have B := hbx.below g1; have B' := B.alloc (.cells #[.int .u8 0] 5); have ho : (w1.alloc (.cells #[.int .u8 0] 5)).ownsRow w.heap.size 5 1 (.slice (some ⟨w1.heap.size, 0, none⟩) 1 1) 1 [.int .u8 0] := World.ownsRow_lit w1 #[.int .u8 0] 1 hsz (by decide) rfl; have D := B; have D' := B'; obtain ⟨c0, c1, c2, c3, c4, -⟩ := D; obtain ⟨d0, d1, d2, d3, d4, -⟩ := D'))
  go_returns
  exact ⟨_, rfl, ho, below_on hw (below_new _ _)⟩

set_option maxRecDepth 100000 in
set_option maxHeartbeats 2000000 in
theorem renc_1 (b : Bool) (n : Int) (s : ByteArray) (p : Option Addr) (l c : Nat) (w : World) (hR : ∀ w', Below w.heap.size w w' → Calls Tryd.prog 13 #[.agg #[.int .i64 1, .bool b, .int .i64 n, .string s, .slice p l c]] w' fun e w'' => e = .returned (.bool true) ∧ Below w'.heap.size w' w'') :
    Calls Tryd.prog 16 #[.agg #[.int .i64 1, .bool b, .int .i64 n, .string s, .slice p l c]] w fun e w' => ∃ v, e = .returned v ∧ w'.ownsRow w.heap.size 5 1 v ([Value.int .u8 1] ++ [Value.int .u8 (bitI b)]).length ([Value.int .u8 1] ++ [Value.int .u8 (bitI b)]) ∧ Below w.heap.size w w' := by
  have hbx := BoxAt.new w 1 b n s p l c rfl
  have hr := hR _ (below_new w (.cells #[.int .i64 1, .bool b, .int .i64 n, .string s, .slice p l c] 25))
  clear hR
  replace hr : Hid _ := hr
  go_enter Tryd.func16, Tryd.ntmps16
  obtain ⟨i0, hi0, hz0, hz1, hz2⟩ := info_parts info5
  cases b
  · go_wp2_with (first
      | (go_at_call 13; refine Calls.mono hr.out ?_; rintro e w1 ⟨rfl, g1⟩; have hw := below_on (below_new w _) g1; have hsz := hw.size; have B := hbx.below g1; have B' := B.alloc (.cells #[.int .u8 1] 5); have ho : (w1.alloc (.cells #[.int .u8 1] 5)).ownsRow w.heap.size 5 1 (.slice (some ⟨w1.heap.size, 0, none⟩) 1 1) 1 [.int .u8 1] := World.ownsRow_lit w1 #[.int .u8 1] 1 hsz (by decide) rfl; have D := B; have D' := B'; obtain ⟨c0, c1, c2, c3, c4, -⟩ := D; obtain ⟨d0, d1, d2, d3, d4, -⟩ := D')
      | (at_builtin; refine wpList_append_own_at _ rfl _ _ 28 rfl w.heap.size 5 i0 (.int .u8 0) 1 1 Tryd.underlying28 hi0 hz0 hz1 hz2 rfl (by decide) _ _ _ rfl (ho.alloc _) ⟨w1.heap.size + 1, 0, none⟩ 1 1 [.int .u8 0] rfl rfl (by simpa using cell_one_new (w1.alloc (.cells #[.int .u8 1] 5)) (.int .u8 0) 5) (by simp [Value.oneCell']) (by decide) (by decide) (by simp; omega) ?_; intro v4 w4 hown4 hgr4 hnil4 hloc4))
    go_returns
    exact ⟨_, rfl, hown4, ((hw.alloc hsz _).alloc (by simp; omega) _).grown hgr4 (by simp; omega) (fun k hk => (ho.lt k hk).1)⟩
  · go_wp2_with (first
      | (go_at_call 13; refine Calls.mono hr.out ?_; rintro e w1 ⟨rfl, g1⟩; have hw := below_on (below_new w _) g1; have hsz := hw.size; have B := hbx.below g1; have B' := B.alloc (.cells #[.int .u8 1] 5); have ho : (w1.alloc (.cells #[.int .u8 1] 5)).ownsRow w.heap.size 5 1 (.slice (some ⟨w1.heap.size, 0, none⟩) 1 1) 1 [.int .u8 1] := World.ownsRow_lit w1 #[.int .u8 1] 1 hsz (by decide) rfl; have D := B; have D' := B'; obtain ⟨c0, c1, c2, c3, c4, -⟩ := D; obtain ⟨d0, d1, d2, d3, d4, -⟩ := D')
      | (at_builtin; refine wpList_append_own_at _ rfl _ _ 28 rfl w.heap.size 5 i0 (.int .u8 0) 1 1 Tryd.underlying28 hi0 hz0 hz1 hz2 rfl (by decide) _ _ _ rfl (ho.alloc _) ⟨w1.heap.size + 1, 0, none⟩ 1 1 [.int .u8 1] rfl rfl (by simpa using cell_one_new (w1.alloc (.cells #[.int .u8 1] 5)) (.int .u8 1) 5) (by simp [Value.oneCell']) (by decide) (by decide) (by simp; omega) ?_; intro v4 w4 hown4 hgr4 hnil4 hloc4))
    go_returns
    exact ⟨_, rfl, hown4, ((hw.alloc hsz _).alloc (by simp; omega) _).grown hgr4 (by simp; omega) (fun k hk => (ho.lt k hk).1)⟩

set_option maxRecDepth 100000 in
set_option maxHeartbeats 2000000 in
theorem renc_2 (b : Bool) (n : Int) (s : ByteArray) (p : Option Addr) (l c : Nat) (w : World) (hR : ∀ w', Below w.heap.size w w' → Calls Tryd.prog 13 #[.agg #[.int .i64 2, .bool b, .int .i64 n, .string s, .slice p l c]] w' fun e w'' => e = .returned (.bool true) ∧ Below w'.heap.size w' w'') :
    Calls Tryd.prog 16 #[.agg #[.int .i64 2, .bool b, .int .i64 n, .string s, .slice p l c]] w fun e w' => ∃ v, e = .returned v ∧ w'.ownsRow w.heap.size 5 1 v ([Value.int .u8 2] ++ nb (IntKind.u64.wrap n) 8).length ([Value.int .u8 2] ++ nb (IntKind.u64.wrap n) 8) ∧ Below w.heap.size w w' := by
  have hbx := BoxAt.new w 2 b n s p l c rfl
  have hr := hR _ (below_new w (.cells #[.int .i64 2, .bool b, .int .i64 n, .string s, .slice p l c] 25))
  clear hR
  replace hr : Hid _ := hr
  go_enter Tryd.func16, Tryd.ntmps16
  go_wp2_with (first
    | (go_at_call 13; refine Calls.mono hr.out ?_; rintro e w1 ⟨rfl, g1⟩; have hw := below_on (below_new w _) g1; have hsz := hw.size; have B := hbx.below g1; have B' := B.alloc (.cells #[.int .u8 2] 5); have ho : (w1.alloc (.cells #[.int .u8 2] 5)).ownsRow w.heap.size 5 1 (.slice (some ⟨w1.heap.size, 0, none⟩) 1 1) 1 [.int .u8 2] := World.ownsRow_lit w1 #[.int .u8 2] 1 hsz (by decide) rfl; have D := B; have D' := B'; obtain ⟨c0, c1, c2, c3, c4, -⟩ := D; obtain ⟨d0, d1, d2, d3, d4, -⟩ := D')
    | (go_at_call 49; refine Calls.mono (put_any w.heap.size _ 1 _ _ 8 _ ho (by simp; omega) (by omega) (by omega)) ?_; rintro e w2 ⟨v2, rfl, ho2, g2⟩))
  go_returns
  exact ⟨_, rfl, ho2, (hw.alloc hsz _).trans g2⟩

set_option maxRecDepth 100000 in
set_option maxHeartbeats 2000000 in
theorem renc_4 (b : Bool) (n : Int) (s : ByteArray) (p : Option Addr) (l c : Nat) (w : World) (hR : ∀ w', Below w.heap.size w w' → Calls Tryd.prog 13 #[.agg #[.int .i64 4, .bool b, .int .i64 n, .string s, .slice p l c]] w' fun e w'' => e = .returned (.bool true) ∧ Below w'.heap.size w' w'') :
    Calls Tryd.prog 16 #[.agg #[.int .i64 4, .bool b, .int .i64 n, .string s, .slice p l c]] w fun e w' => ∃ v, e = .returned v ∧ w'.ownsRow w.heap.size 5 1 v ([Value.int .u8 4] ++ nb (IntKind.u64.wrap n) 8).length ([Value.int .u8 4] ++ nb (IntKind.u64.wrap n) 8) ∧ Below w.heap.size w w' := by
  have hbx := BoxAt.new w 4 b n s p l c rfl
  have hr := hR _ (below_new w (.cells #[.int .i64 4, .bool b, .int .i64 n, .string s, .slice p l c] 25))
  clear hR
  replace hr : Hid _ := hr
  go_enter Tryd.func16, Tryd.ntmps16
  go_wp2_with (first
    | (go_at_call 13; refine Calls.mono hr.out ?_; rintro e w1 ⟨rfl, g1⟩; have hw := below_on (below_new w _) g1; have hsz := hw.size; have B := hbx.below g1; have B' := B.alloc (.cells #[.int .u8 4] 5); have ho : (w1.alloc (.cells #[.int .u8 4] 5)).ownsRow w.heap.size 5 1 (.slice (some ⟨w1.heap.size, 0, none⟩) 1 1) 1 [.int .u8 4] := World.ownsRow_lit w1 #[.int .u8 4] 1 hsz (by decide) rfl; have D := B; have D' := B'; obtain ⟨c0, c1, c2, c3, c4, -⟩ := D; obtain ⟨d0, d1, d2, d3, d4, -⟩ := D')
    | (go_at_call 49; refine Calls.mono (put_any w.heap.size _ 1 _ _ 8 _ ho (by simp; omega) (by omega) (by omega)) ?_; rintro e w2 ⟨v2, rfl, ho2, g2⟩))
  go_returns
  exact ⟨_, rfl, ho2, (hw.alloc hsz _).trans g2⟩

set_option maxRecDepth 100000 in
set_option maxHeartbeats 2000000 in
theorem renc_5 (b : Bool) (n : Int) (s : ByteArray) (p : Option Addr) (l c : Nat) (w : World) (hR : ∀ w', Below w.heap.size w w' → Calls Tryd.prog 13 #[.agg #[.int .i64 5, .bool b, .int .i64 n, .string s, .slice p l c]] w' fun e w'' => e = .returned (.bool true) ∧ Below w'.heap.size w' w'') :
    Calls Tryd.prog 16 #[.agg #[.int .i64 5, .bool b, .int .i64 n, .string s, .slice p l c]] w fun e w' => ∃ v, e = .returned v ∧ w'.ownsRow w.heap.size 5 1 v ([Value.int .u8 5] ++ nb (IntKind.u64.wrap n) 8).length ([Value.int .u8 5] ++ nb (IntKind.u64.wrap n) 8) ∧ Below w.heap.size w w' := by
  have hbx := BoxAt.new w 5 b n s p l c rfl
  have hr := hR _ (below_new w (.cells #[.int .i64 5, .bool b, .int .i64 n, .string s, .slice p l c] 25))
  clear hR
  replace hr : Hid _ := hr
  go_enter Tryd.func16, Tryd.ntmps16
  go_wp2_with (first
    | (go_at_call 13; refine Calls.mono hr.out ?_; rintro e w1 ⟨rfl, g1⟩; have hw := below_on (below_new w _) g1; have hsz := hw.size; have B := hbx.below g1; have B' := B.alloc (.cells #[.int .u8 5] 5); have ho : (w1.alloc (.cells #[.int .u8 5] 5)).ownsRow w.heap.size 5 1 (.slice (some ⟨w1.heap.size, 0, none⟩) 1 1) 1 [.int .u8 5] := World.ownsRow_lit w1 #[.int .u8 5] 1 hsz (by decide) rfl; have D := B; have D' := B'; obtain ⟨c0, c1, c2, c3, c4, -⟩ := D; obtain ⟨d0, d1, d2, d3, d4, -⟩ := D')
    | (go_at_call 49; refine Calls.mono (put_any w.heap.size _ 1 _ _ 8 _ ho (by simp; omega) (by omega) (by omega)) ?_; rintro e w2 ⟨v2, rfl, ho2, g2⟩))
  go_returns
  exact ⟨_, rfl, ho2, (hw.alloc hsz _).trans g2⟩
end Go.Proofs.YtokkmjcpjjiaaaaDoor
