/-
  SameExpr: expressions whose contents are alike are told to be the same.
  Lists of elements that lie in memory, read element by element; expressions that are alike are told to be the same.
  samePatterns: patterns of the same content are told to be the same.
-/
import Derived.Test.YtefenbonjepjgaaGreatDoorTbs
import Derived.BigQuiet
import Derived.Lib.QuietBelow
namespace Go.Proofs.YtefenbonjepjgaaGreatDoor
open Go.ChangeShapes Go.WideShapes Go.ChangeAt Go.RowKit Go.Sort
set_option linter.unusedSimpArgs false
set_option linter.unusedVariables false

set_option maxRecDepth 100000 in
theorem sameV_yes (k : Int) (b : Bool) (n : Int) (s : ByteArray) (w : World) :
    Calls Tryz.prog 27 #[.agg #[.int .i64 k, .bool b, .int .i64 n, .string s, .slice none 0 0], .agg #[.int .i64 k, .bool b, .int .i64 n, .string s, .slice none 0 0]] w fun e w' => e = .returned (.bool true) ∧ Below w.heap.size w w' := by
  have hb : Below w.heap.size w ((w.alloc (.cells #[.int .i64 k, .bool b, .int .i64 n, .string s, .slice none 0 0] 38)).alloc (.cells #[.int .i64 k, .bool b, .int .i64 n, .string s, .slice none 0 0] 38)) := by go_grown
  have B1 := (Blk.new w [.int .i64 k, .bool b, .int .i64 n, .string s, .slice none 0 0] 38).grown (below_new _ (.cells #[.int .i64 k, .bool b, .int .i64 n, .string s, .slice none 0 0] 38))
  have B2 := Blk.new (w.alloc (.cells #[.int .i64 k, .bool b, .int .i64 n, .string s, .slice none 0 0] 38)) [.int .i64 k, .bool b, .int .i64 n, .string s, .slice none 0 0] 38
  have e1 : (w.alloc (.cells #[.int .i64 k, .bool b, .int .i64 n, .string s, .slice none 0 0] 38)).heap.size = w.heap.size + 1 := by simp
  rw [e1] at B2
  go_enter Tryz.func27, Tryz.ntmps27
  go_wp2_with fail
  have i0 : ((w.alloc (.cells #[.int .i64 k, .bool b, .int .i64 n, .string s, .slice none 0 0] 38)).alloc (.cells #[.int .i64 k, .bool b, .int .i64 n, .string s, .slice none 0 0] 38)).cell? ⟨w.heap.size, 0, none⟩ = some (.int .i64 k) := B1.c 0 (by simp)
  have i1 : ((w.alloc (.cells #[.int .i64 k, .bool b, .int .i64 n, .string s, .slice none 0 0] 38)).alloc (.cells #[.int .i64 k, .bool b, .int .i64 n, .string s, .slice none 0 0] 38)).cell? ⟨w.heap.size, 1, none⟩ = some (.bool b) := B1.c 1 (by simp)
  have i2 : ((w.alloc (.cells #[.int .i64 k, .bool b, .int .i64 n, .string s, .slice none 0 0] 38)).alloc (.cells #[.int .i64 k, .bool b, .int .i64 n, .string s, .slice none 0 0] 38)).cell? ⟨w.heap.size, 2, none⟩ = some (.int .i64 n) := B1.c 2 (by simp)
  have i3 : ((w.alloc (.cells #[.int .i64 k, .bool b, .int .i64 n, .string s, .slice none 0 0] 38)).alloc (.cells #[.int .i64 k, .bool b, .int .i64 n, .string s, .slice none 0 0] 38)).cell? ⟨w.heap.size, 3, none⟩ = some (.string s) := B1.c 3 (by simp)
  have i4 : ((w.alloc (.cells #[.int .i64 k, .bool b, .int .i64 n, .string s, .slice none 0 0] 38)).alloc (.cells #[.int .i64 k, .bool b, .int .i64 n, .string s, .slice none 0 0] 38)).cell? ⟨w.heap.size, 4, none⟩ = some (.slice none 0 0) := B1.c 4 (by simp)
  have j0 : ((w.alloc (.cells #[.int .i64 k, .bool b, .int .i64 n, .string s, .slice none 0 0] 38)).alloc (.cells #[.int .i64 k, .bool b, .int .i64 n, .string s, .slice none 0 0] 38)).cell? ⟨w.heap.size + 1, 0, none⟩ = some (.int .i64 k) := B2.c 0 (by simp)
  have j1 : ((w.alloc (.cells #[.int .i64 k, .bool b, .int .i64 n, .string s, .slice none 0 0] 38)).alloc (.cells #[.int .i64 k, .bool b, .int .i64 n, .string s, .slice none 0 0] 38)).cell? ⟨w.heap.size + 1, 1, none⟩ = some (.bool b) := B2.c 1 (by simp)
  have j2 : ((w.alloc (.cells #[.int .i64 k, .bool b, .int .i64 n, .string s, .slice none 0 0] 38)).alloc (.cells #[.int .i64 k, .bool b, .int .i64 n, .string s, .slice none 0 0] 38)).cell? ⟨w.heap.size + 1, 2, none⟩ = some (.int .i64 n) := B2.c 2 (by simp)
  have j3 : ((w.alloc (.cells #[.int .i64 k, .bool b, .int .i64 n, .string s, .slice none 0 0] 38)).alloc (.cells #[.int .i64 k, .bool b, .int .i64 n, .string s, .slice none 0 0] 38)).cell? ⟨w.heap.size + 1, 3, none⟩ = some (.string s) := B2.c 3 (by simp)
  have j4 : ((w.alloc (.cells #[.int .i64 k, .bool b, .int .i64 n, .string s, .slice none 0 0] 38)).alloc (.cells #[.int .i64 k, .bool b, .int .i64 n, .string s, .slice none 0 0] 38)).cell? ⟨w.heap.size + 1, 4, none⟩ = some (.slice none 0 0) := B2.c 4 (by simp)
  clear B1 B2
  generalize (w.alloc (.cells #[.int .i64 k, .bool b, .int .i64 n, .string s, .slice none 0 0] 38)).alloc (.cells #[.int .i64 k, .bool b, .int .i64 n, .string s, .slice none 0 0] 38) = W at *
  go_loopw [5] (fun i wr => i = .int .i64 0 ∧ wr = W) (fun i _ => 0)
  case atStart => exact ⟨rfl, rfl⟩
  case round =>
    obtain ⟨rfl, rfl⟩ := hrel
    go_wp2_with fail
    go_returns
    exact ⟨by simp, hb⟩
set_option maxRecDepth 100000 in
set_option maxHeartbeats 4000000 in
theorem sameE0 (O : Int) (M P : ByteArray) (K : Int) (B : Bool) (I : Int) (T : ByteArray) (w : World) :
    Calls Tryz.prog 15 #[.agg #[.int .i64 O, .slice none 0 0, .string M, .string P, .int .i64 K, .bool B, .int .i64 I, .string T, .slice none 0 0], .agg #[.int .i64 O, .slice none 0 0, .string M, .string P, .int .i64 K, .bool B, .int .i64 I, .string T, .slice none 0 0]] w fun e w' => e = .returned (.bool true) ∧ Below w.heap.size w w' := by
  have hb : Below w.heap.size w ((w.alloc (.cells #[.int .i64 O, .slice none 0 0, .string M, .string P, .int .i64 K, .bool B, .int .i64 I, .string T, .slice none 0 0] 40)).alloc (.cells #[.int .i64 O, .slice none 0 0, .string M, .string P, .int .i64 K, .bool B, .int .i64 I, .string T, .slice none 0 0] 40)) := by go_grown
  have B1 := (Blk.new w [.int .i64 O, .slice none 0 0, .string M, .string P, .int .i64 K, .bool B, .int .i64 I, .string T, .slice none 0 0] 40).grown (below_new _ (.cells #[.int .i64 O, .slice none 0 0, .string M, .string P, .int .i64 K, .bool B, .int .i64 I, .string T, .slice none 0 0] 40))
  have B2 := Blk.new (w.alloc (.cells #[.int .i64 O, .slice none 0 0, .string M, .string P, .int .i64 K, .bool B, .int .i64 I, .string T, .slice none 0 0] 40)) [.int .i64 O, .slice none 0 0, .string M, .string P, .int .i64 K, .bool B, .int .i64 I, .string T, .slice none 0 0] 40
  have e1 : (w.alloc (.cells #[.int .i64 O, .slice none 0 0, .string M, .string P, .int .i64 K, .bool B, .int .i64 I, .string T, .slice none 0 0] 40)).heap.size = w.heap.size + 1 := by simp
  rw [e1] at B2
  have hv := fun w => sameV_yes K B I T w
  replace hv : Hid _ := hv
  go_enter Tryz.func15, Tryz.ntmps15
  go_upto_region 1 with fail
  have hW : ∃ W, W = (w.alloc (.cells #[.int .i64 O, .slice none 0 0, .string M, .string P, .int .i64 K, .bool B, .int .i64 I, .string T, .slice none 0 0] 40)).alloc (.cells #[.int .i64 O, .slice none 0 0, .string M, .string P, .int .i64 K, .bool B, .int .i64 I, .string T, .slice none 0 0] 40) := ⟨_, rfl⟩
  obtain ⟨W, hW⟩ := hW
  rw [← hW] at hb B1 B2 ⊢
  have i0 : W.cell? ⟨w.heap.size, 0, none⟩ = some (.int .i64 O) := B1.c 0 (by simp)
  have i1 : W.cell? ⟨w.heap.size, 1, none⟩ = some (.slice none 0 0) := B1.c 1 (by simp)
  have i2 : W.cell? ⟨w.heap.size, 2, none⟩ = some (.string M) := B1.c 2 (by simp)
  have i3 : W.cell? ⟨w.heap.size, 3, none⟩ = some (.string P) := B1.c 3 (by simp)
  have i4 : W.cell? ⟨w.heap.size, 4, none⟩ = some (.int .i64 K) := B1.c 4 (by simp)
  have i5 : W.cell? ⟨w.heap.size, 5, none⟩ = some (.bool B) := B1.c 5 (by simp)
  have i6 : W.cell? ⟨w.heap.size, 6, none⟩ = some (.int .i64 I) := B1.c 6 (by simp)
  have i7 : W.cell? ⟨w.heap.size, 7, none⟩ = some (.string T) := B1.c 7 (by simp)
  have i8 : W.cell? ⟨w.heap.size, 8, none⟩ = some (.slice none 0 0) := B1.c 8 (by simp)
  have j0 : W.cell? ⟨w.heap.size + 1, 0, none⟩ = some (.int .i64 O) := B2.c 0 (by simp)
  have j1 : W.cell? ⟨w.heap.size + 1, 1, none⟩ = some (.slice none 0 0) := B2.c 1 (by simp)
  have j2 : W.cell? ⟨w.heap.size + 1, 2, none⟩ = some (.string M) := B2.c 2 (by simp)
  have j3 : W.cell? ⟨w.heap.size + 1, 3, none⟩ = some (.string P) := B2.c 3 (by simp)
  have j4 : W.cell? ⟨w.heap.size + 1, 4, none⟩ = some (.int .i64 K) := B2.c 4 (by simp)
  have j5 : W.cell? ⟨w.heap.size + 1, 5, none⟩ = some (.bool B) := B2.c 5 (by simp)
  have j6 : W.cell? ⟨w.heap.size + 1, 6, none⟩ = some (.int .i64 I) := B2.c 6 (by simp)
  have j7 : W.cell? ⟨w.heap.size + 1, 7, none⟩ = some (.string T) := B2.c 7 (by simp)
  have j8 : W.cell? ⟨w.heap.size + 1, 8, none⟩ = some (.slice none 0 0) := B2.c 8 (by simp)
  clear hW
  go_upto_region 2 with ((with_reducible refine Calls.mono (hv.out _) ?_); rintro e w2 ⟨rfl, hb2⟩)
  have hb3 := below_on hb hb2
  have C1 := B1.grown hb2
  have C2 := B2.grown hb2
  clear i0 j0 i1 j1 i2 j2 i3 j3 i4 j4 i5 j5 i6 j6 i7 j7 i8 j8
  have i0 : w2.cell? ⟨w.heap.size, 0, none⟩ = some (.int .i64 O) := C1.c 0 (by simp)
  have i1 : w2.cell? ⟨w.heap.size, 1, none⟩ = some (.slice none 0 0) := C1.c 1 (by simp)
  have i2 : w2.cell? ⟨w.heap.size, 2, none⟩ = some (.string M) := C1.c 2 (by simp)
  have i3 : w2.cell? ⟨w.heap.size, 3, none⟩ = some (.string P) := C1.c 3 (by simp)
  have i4 : w2.cell? ⟨w.heap.size, 4, none⟩ = some (.int .i64 K) := C1.c 4 (by simp)
  have i5 : w2.cell? ⟨w.heap.size, 5, none⟩ = some (.bool B) := C1.c 5 (by simp)
  have i6 : w2.cell? ⟨w.heap.size, 6, none⟩ = some (.int .i64 I) := C1.c 6 (by simp)
  have i7 : w2.cell? ⟨w.heap.size, 7, none⟩ = some (.string T) := C1.c 7 (by simp)
  have i8 : w2.cell? ⟨w.heap.size, 8, none⟩ = some (.slice none 0 0) := C1.c 8 (by simp)
  have j0 : w2.cell? ⟨w.heap.size + 1, 0, none⟩ = some (.int .i64 O) := C2.c 0 (by simp)
  have j1 : w2.cell? ⟨w.heap.size + 1, 1, none⟩ = some (.slice none 0 0) := C2.c 1 (by simp)
  have j2 : w2.cell? ⟨w.heap.size + 1, 2, none⟩ = some (.string M) := C2.c 2 (by simp)
  have j3 : w2.cell? ⟨w.heap.size + 1, 3, none⟩ = some (.string P) := C2.c 3 (by simp)
  have j4 : w2.cell? ⟨w.heap.size + 1, 4, none⟩ = some (.int .i64 K) := C2.c 4 (by simp)
  have j5 : w2.cell? ⟨w.heap.size + 1, 5, none⟩ = some (.bool B) := C2.c 5 (by simp)
  have j6 : w2.cell? ⟨w.heap.size + 1, 6, none⟩ = some (.int .i64 I) := C2.c 6 (by simp)
  have j7 : w2.cell? ⟨w.heap.size + 1, 7, none⟩ = some (.string T) := C2.c 7 (by simp)
  have j8 : w2.cell? ⟨w.heap.size + 1, 8, none⟩ = some (.slice none 0 0) := C2.c 8 (by simp)
  clear B1 B2 hb2 hb hv
  go_wp2_with fail
  go_loopw [6] (fun i wr => i = .int .i64 0 ∧ wr = w2) (fun i _ => 0)
  case atStart => exact ⟨rfl, rfl⟩
  case round =>
    obtain ⟨rfl, rfl⟩ := hrel
    go_wp2_with fail
    go_returns
    exact ⟨by simp, hb3⟩
set_option maxRecDepth 100000 in
set_option maxHeartbeats 4000000 in
theorem sameE1 (O : Int) (M P : ByteArray) (K : Int) (B : Bool) (I : Int) (T : ByteArray) (g1 g2 : Nat) (w : World)
    (O0 : Int) (M0 P0 : ByteArray) (K0 : Int) (B0 : Bool) (I0 : Int) (T0 : ByteArray) (pa0 pb0 : Option Addr) (na0 nb0 ca0 cb0 : Nat)
    (x00 : w.cell? ⟨g1, 0, none⟩ = some (.int .i64 O0))
    (x01 : w.cell? ⟨g1, 1, none⟩ = some (.slice pa0 na0 ca0))
    (x02 : w.cell? ⟨g1, 2, none⟩ = some (.string M0))
    (x03 : w.cell? ⟨g1, 3, none⟩ = some (.string P0))
    (x04 : w.cell? ⟨g1, 4, none⟩ = some (.int .i64 K0))
    (x05 : w.cell? ⟨g1, 5, none⟩ = some (.bool B0))
    (x06 : w.cell? ⟨g1, 6, none⟩ = some (.int .i64 I0))
    (x07 : w.cell? ⟨g1, 7, none⟩ = some (.string T0))
    (x08 : w.cell? ⟨g1, 8, none⟩ = some (.slice none 0 0))
    (y00 : w.cell? ⟨g2, 0, none⟩ = some (.int .i64 O0))
    (y01 : w.cell? ⟨g2, 1, none⟩ = some (.slice pb0 nb0 cb0))
    (y02 : w.cell? ⟨g2, 2, none⟩ = some (.string M0))
    (y03 : w.cell? ⟨g2, 3, none⟩ = some (.string P0))
    (y04 : w.cell? ⟨g2, 4, none⟩ = some (.int .i64 K0))
    (y05 : w.cell? ⟨g2, 5, none⟩ = some (.bool B0))
    (y06 : w.cell? ⟨g2, 6, none⟩ = some (.int .i64 I0))
    (y07 : w.cell? ⟨g2, 7, none⟩ = some (.string T0))
    (y08 : w.cell? ⟨g2, 8, none⟩ = some (.slice none 0 0))
    (hk0 : ∀ w', Below w.heap.size w w' → Calls Tryz.prog 15 #[.agg #[.int .i64 O0, .slice pa0 na0 ca0, .string M0, .string P0, .int .i64 K0, .bool B0, .int .i64 I0, .string T0, .slice none 0 0], .agg #[.int .i64 O0, .slice pb0 nb0 cb0, .string M0, .string P0, .int .i64 K0, .bool B0, .int .i64 I0, .string T0, .slice none 0 0]] w' fun e w'' => e = .returned (.bool true) ∧ Below w'.heap.size w' w'') :
    Calls Tryz.prog 15 #[.agg #[.int .i64 O, .slice (some ⟨g1, 0, none⟩) 1 1, .string M, .string P, .int .i64 K, .bool B, .int .i64 I, .string T, .slice none 0 0], .agg #[.int .i64 O, .slice (some ⟨g2, 0, none⟩) 1 1, .string M, .string P, .int .i64 K, .bool B, .int .i64 I, .string T, .slice none 0 0]] w fun e w' => e = .returned (.bool true) ∧ Below w.heap.size w w' := by
  have hb : Below w.heap.size w ((w.alloc (.cells #[.int .i64 O, .slice (some ⟨g1, 0, none⟩) 1 1, .string M, .string P, .int .i64 K, .bool B, .int .i64 I, .string T, .slice none 0 0] 40)).alloc (.cells #[.int .i64 O, .slice (some ⟨g2, 0, none⟩) 1 1, .string M, .string P, .int .i64 K, .bool B, .int .i64 I, .string T, .slice none 0 0] 40)) := by go_grown
  have B1 := (Blk.new w [.int .i64 O, .slice (some ⟨g1, 0, none⟩) 1 1, .string M, .string P, .int .i64 K, .bool B, .int .i64 I, .string T, .slice none 0 0] 40).grown (below_new _ (.cells #[.int .i64 O, .slice (some ⟨g2, 0, none⟩) 1 1, .string M, .string P, .int .i64 K, .bool B, .int .i64 I, .string T, .slice none 0 0] 40))
  have B2 := Blk.new (w.alloc (.cells #[.int .i64 O, .slice (some ⟨g1, 0, none⟩) 1 1, .string M, .string P, .int .i64 K, .bool B, .int .i64 I, .string T, .slice none 0 0] 40)) [.int .i64 O, .slice (some ⟨g2, 0, none⟩) 1 1, .string M, .string P, .int .i64 K, .bool B, .int .i64 I, .string T, .slice none 0 0] 40
  have e1 : (w.alloc (.cells #[.int .i64 O, .slice (some ⟨g1, 0, none⟩) 1 1, .string M, .string P, .int .i64 K, .bool B, .int .i64 I, .string T, .slice none 0 0] 40)).heap.size = w.heap.size + 1 := by simp
  rw [e1] at B2
  have hv := fun w => sameV_yes K B I T w
  replace hv : Hid _ := hv
  go_enter Tryz.func15, Tryz.ntmps15
  go_upto_region 1 with fail
  have hW : ∃ W, W = (w.alloc (.cells #[.int .i64 O, .slice (some ⟨g1, 0, none⟩) 1 1, .string M, .string P, .int .i64 K, .bool B, .int .i64 I, .string T, .slice none 0 0] 40)).alloc (.cells #[.int .i64 O, .slice (some ⟨g2, 0, none⟩) 1 1, .string M, .string P, .int .i64 K, .bool B, .int .i64 I, .string T, .slice none 0 0] 40) := ⟨_, rfl⟩
  obtain ⟨W, hW⟩ := hW
  rw [← hW] at hb B1 B2 ⊢
  have i0 : W.cell? ⟨w.heap.size, 0, none⟩ = some (.int .i64 O) := B1.c 0 (by simp)
  have i1 : W.cell? ⟨w.heap.size, 1, none⟩ = some (.slice (some ⟨g1, 0, none⟩) 1 1) := B1.c 1 (by simp)
  have i2 : W.cell? ⟨w.heap.size, 2, none⟩ = some (.string M) := B1.c 2 (by simp)
  have i3 : W.cell? ⟨w.heap.size, 3, none⟩ = some (.string P) := B1.c 3 (by simp)
  have i4 : W.cell? ⟨w.heap.size, 4, none⟩ = some (.int .i64 K) := B1.c 4 (by simp)
  have i5 : W.cell? ⟨w.heap.size, 5, none⟩ = some (.bool B) := B1.c 5 (by simp)
  have i6 : W.cell? ⟨w.heap.size, 6, none⟩ = some (.int .i64 I) := B1.c 6 (by simp)
  have i7 : W.cell? ⟨w.heap.size, 7, none⟩ = some (.string T) := B1.c 7 (by simp)
  have i8 : W.cell? ⟨w.heap.size, 8, none⟩ = some (.slice none 0 0) := B1.c 8 (by simp)
  have j0 : W.cell? ⟨w.heap.size + 1, 0, none⟩ = some (.int .i64 O) := B2.c 0 (by simp)
  have j1 : W.cell? ⟨w.heap.size + 1, 1, none⟩ = some (.slice (some ⟨g2, 0, none⟩) 1 1) := B2.c 1 (by simp)
  have j2 : W.cell? ⟨w.heap.size + 1, 2, none⟩ = some (.string M) := B2.c 2 (by simp)
  have j3 : W.cell? ⟨w.heap.size + 1, 3, none⟩ = some (.string P) := B2.c 3 (by simp)
  have j4 : W.cell? ⟨w.heap.size + 1, 4, none⟩ = some (.int .i64 K) := B2.c 4 (by simp)
  have j5 : W.cell? ⟨w.heap.size + 1, 5, none⟩ = some (.bool B) := B2.c 5 (by simp)
  have j6 : W.cell? ⟨w.heap.size + 1, 6, none⟩ = some (.int .i64 I) := B2.c 6 (by simp)
  have j7 : W.cell? ⟨w.heap.size + 1, 7, none⟩ = some (.string T) := B2.c 7 (by simp)
  have j8 : W.cell? ⟨w.heap.size + 1, 8, none⟩ = some (.slice none 0 0) := B2.c 8 (by simp)
  clear hW
  go_upto_region 2 with ((with_reducible refine Calls.mono (hv.out _) ?_); rintro e w2 ⟨rfl, hb2⟩)
  have hb3 := below_on hb hb2
  have C1 := B1.grown hb2
  have C2 := B2.grown hb2
  clear i0 j0 i1 j1 i2 j2 i3 j3 i4 j4 i5 j5 i6 j6 i7 j7 i8 j8
  have i0 : w2.cell? ⟨w.heap.size, 0, none⟩ = some (.int .i64 O) := C1.c 0 (by simp)
  have i1 : w2.cell? ⟨w.heap.size, 1, none⟩ = some (.slice (some ⟨g1, 0, none⟩) 1 1) := C1.c 1 (by simp)
  have i2 : w2.cell? ⟨w.heap.size, 2, none⟩ = some (.string M) := C1.c 2 (by simp)
  have i3 : w2.cell? ⟨w.heap.size, 3, none⟩ = some (.string P) := C1.c 3 (by simp)
  have i4 : w2.cell? ⟨w.heap.size, 4, none⟩ = some (.int .i64 K) := C1.c 4 (by simp)
  have i5 : w2.cell? ⟨w.heap.size, 5, none⟩ = some (.bool B) := C1.c 5 (by simp)
  have i6 : w2.cell? ⟨w.heap.size, 6, none⟩ = some (.int .i64 I) := C1.c 6 (by simp)
  have i7 : w2.cell? ⟨w.heap.size, 7, none⟩ = some (.string T) := C1.c 7 (by simp)
  have i8 : w2.cell? ⟨w.heap.size, 8, none⟩ = some (.slice none 0 0) := C1.c 8 (by simp)
  have j0 : w2.cell? ⟨w.heap.size + 1, 0, none⟩ = some (.int .i64 O) := C2.c 0 (by simp)
  have j1 : w2.cell? ⟨w.heap.size + 1, 1, none⟩ = some (.slice (some ⟨g2, 0, none⟩) 1 1) := C2.c 1 (by simp)
  have j2 : w2.cell? ⟨w.heap.size + 1, 2, none⟩ = some (.string M) := C2.c 2 (by simp)
  have j3 : w2.cell? ⟨w.heap.size + 1, 3, none⟩ = some (.string P) := C2.c 3 (by simp)
  have j4 : w2.cell? ⟨w.heap.size + 1, 4, none⟩ = some (.int .i64 K) := C2.c 4 (by simp)
  have j5 : w2.cell? ⟨w.heap.size + 1, 5, none⟩ = some (.bool B) := C2.c 5 (by simp)
  have j6 : w2.cell? ⟨w.heap.size + 1, 6, none⟩ = some (.int .i64 I) := C2.c 6 (by simp)
  have j7 : w2.cell? ⟨w.heap.size + 1, 7, none⟩ = some (.string T) := C2.c 7 (by simp)
  have j8 : w2.cell? ⟨w.heap.size + 1, 8, none⟩ = some (.slice none 0 0) := C2.c 8 (by simp)
  clear B1 B2 hb2 hb hv
  go_wp2_with fail
  clear C1 C2
  go_loopw [6] (fun i wr => (i = .int .i64 0 ∨ i = .int .i64 1) ∧ Below w2.heap.size w2 wr) (fun i _ => 1 - (intOf i).toNat)
  case atStart => exact ⟨.inl rfl, Below.refl _ _⟩
  case round =>
    obtain ⟨hi, hbx⟩ := hrel
    have hbw := below_on hb3 hbx
    have lx : w.heap.size < w2.heap.size := World.block_lt_of_cell? w2 _ i1
    have ly : w.heap.size + 1 < w2.heap.size := World.block_lt_of_cell? w2 _ j1
    replace i1 := (hbx.cell (p := ⟨w.heap.size, 1, none⟩) lx).trans i1
    replace j1 := (hbx.cell (p := ⟨w.heap.size + 1, 1, none⟩) ly).trans j1
    clear i0 i2 i3 i4 i5 i6 i7 i8 j0 j2 j3 j4 j5 j6 j7 j8
    rcases hi with rfl | rfl
    · have cS : ∀ d os, Calls Tryz.prog 15 #[.agg #[.int .i64 O0, .slice pa0 na0 ca0, .string M0, .string P0, .int .i64 K0, .bool B0, .int .i64 I0, .string T0, .slice none 0 0], .agg #[.int .i64 O0, .slice pb0 nb0 cb0, .string M0, .string P0, .int .i64 K0, .bool B0, .int .i64 I0, .string T0, .slice none 0 0]] (grow (redrawn wr d) os) fun e w'' => e = .returned (.bool true) ∧ ∃ p : Regrown, w'' = grow (redrawn wr p.d) p.os := fun d os => Calls.regrown_of (hk0 _ (below_on hbw (below_regrown wr d os)))
      have xf0 := cell_regrown ((hbw.cell (p := ⟨g1, 0, none⟩) (World.block_lt_of_cell? w _ x00)).trans x00)
      have xf1 := cell_regrown ((hbw.cell (p := ⟨g1, 1, none⟩) (World.block_lt_of_cell? w _ x01)).trans x01)
      have xf2 := cell_regrown ((hbw.cell (p := ⟨g1, 2, none⟩) (World.block_lt_of_cell? w _ x02)).trans x02)
      have xf3 := cell_regrown ((hbw.cell (p := ⟨g1, 3, none⟩) (World.block_lt_of_cell? w _ x03)).trans x03)
      have xf4 := cell_regrown ((hbw.cell (p := ⟨g1, 4, none⟩) (World.block_lt_of_cell? w _ x04)).trans x04)
      have xf5 := cell_regrown ((hbw.cell (p := ⟨g1, 5, none⟩) (World.block_lt_of_cell? w _ x05)).trans x05)
      have xf6 := cell_regrown ((hbw.cell (p := ⟨g1, 6, none⟩) (World.block_lt_of_cell? w _ x06)).trans x06)
      have xf7 := cell_regrown ((hbw.cell (p := ⟨g1, 7, none⟩) (World.block_lt_of_cell? w _ x07)).trans x07)
      have xf8 := cell_regrown ((hbw.cell (p := ⟨g1, 8, none⟩) (World.block_lt_of_cell? w _ x08)).trans x08)
      have yf0 := cell_regrown ((hbw.cell (p := ⟨g2, 0, none⟩) (World.block_lt_of_cell? w _ y00)).trans y00)
      have yf1 := cell_regrown ((hbw.cell (p := ⟨g2, 1, none⟩) (World.block_lt_of_cell? w _ y01)).trans y01)
      have yf2 := cell_regrown ((hbw.cell (p := ⟨g2, 2, none⟩) (World.block_lt_of_cell? w _ y02)).trans y02)
      have yf3 := cell_regrown ((hbw.cell (p := ⟨g2, 3, none⟩) (World.block_lt_of_cell? w _ y03)).trans y03)
      have yf4 := cell_regrown ((hbw.cell (p := ⟨g2, 4, none⟩) (World.block_lt_of_cell? w _ y04)).trans y04)
      have yf5 := cell_regrown ((hbw.cell (p := ⟨g2, 5, none⟩) (World.block_lt_of_cell? w _ y05)).trans y05)
      have yf6 := cell_regrown ((hbw.cell (p := ⟨g2, 6, none⟩) (World.block_lt_of_cell? w _ y06)).trans y06)
      have yf7 := cell_regrown ((hbw.cell (p := ⟨g2, 7, none⟩) (World.block_lt_of_cell? w _ y07)).trans y07)
      have yf8 := cell_regrown ((hbw.cell (p := ⟨g2, 8, none⟩) (World.block_lt_of_cell? w _ y08)).trans y08)
      have fi := cell_regrown i1
      have fj := cell_regrown j1
      replace cS : Hid _ := cS
      go_wp2_with fail
      refine wp_region_quiet_below (by kernel_rfl) (by kernel_rfl) ?_
      repeat (first | go_big_quiet_step (with_reducible exact cS.out _ _) | quiet_step (with_reducible exact cS.out _ _))
      refine wpQuiet_nil ?_
      intro _ hw'
      obtain ⟨⟨dq, osq⟩, hw''⟩ := hw'
      subst hw''
      have hb5 := below_on hbx (below_regrown wr dq osq)
      clear fi fj cS xf0 yf0 xf1 yf1 xf2 yf2 xf3 yf3 xf4 yf4 xf5 yf5 xf6 yf6 xf7 yf7 xf8 yf8
      generalize grow (redrawn wr dq) osq = w3 at hb5 ⊢
      go_wp2_with fail
      exact ⟨⟨by simp, hb5⟩, by decide⟩
    · go_wp2_with fail
      go_returns
      exact ⟨by simp, hbw⟩
set_option maxRecDepth 100000 in
set_option maxHeartbeats 4000000 in
theorem sameE2 (O : Int) (M P : ByteArray) (K : Int) (B : Bool) (I : Int) (T : ByteArray) (g1 g2 : Nat) (w : World)
    (O0 : Int) (M0 P0 : ByteArray) (K0 : Int) (B0 : Bool) (I0 : Int) (T0 : ByteArray) (pa0 pb0 : Option Addr) (na0 nb0 ca0 cb0 : Nat)
    (x00 : w.cell? ⟨g1, 0, none⟩ = some (.int .i64 O0))
    (x01 : w.cell? ⟨g1, 1, none⟩ = some (.slice pa0 na0 ca0))
    (x02 : w.cell? ⟨g1, 2, none⟩ = some (.string M0))
    (x03 : w.cell? ⟨g1, 3, none⟩ = some (.string P0))
    (x04 : w.cell? ⟨g1, 4, none⟩ = some (.int .i64 K0))
    (x05 : w.cell? ⟨g1, 5, none⟩ = some (.bool B0))
    (x06 : w.cell? ⟨g1, 6, none⟩ = some (.int .i64 I0))
    (x07 : w.cell? ⟨g1, 7, none⟩ = some (.string T0))
    (x08 : w.cell? ⟨g1, 8, none⟩ = some (.slice none 0 0))
    (y00 : w.cell? ⟨g2, 0, none⟩ = some (.int .i64 O0))
    (y01 : w.cell? ⟨g2, 1, none⟩ = some (.slice pb0 nb0 cb0))
    (y02 : w.cell? ⟨g2, 2, none⟩ = some (.string M0))
    (y03 : w.cell? ⟨g2, 3, none⟩ = some (.string P0))
    (y04 : w.cell? ⟨g2, 4, none⟩ = some (.int .i64 K0))
    (y05 : w.cell? ⟨g2, 5, none⟩ = some (.bool B0))
    (y06 : w.cell? ⟨g2, 6, none⟩ = some (.int .i64 I0))
    (y07 : w.cell? ⟨g2, 7, none⟩ = some (.string T0))
    (y08 : w.cell? ⟨g2, 8, none⟩ = some (.slice none 0 0))
    (hk0 : ∀ w', Below w.heap.size w w' → Calls Tryz.prog 15 #[.agg #[.int .i64 O0, .slice pa0 na0 ca0, .string M0, .string P0, .int .i64 K0, .bool B0, .int .i64 I0, .string T0, .slice none 0 0], .agg #[.int .i64 O0, .slice pb0 nb0 cb0, .string M0, .string P0, .int .i64 K0, .bool B0, .int .i64 I0, .string T0, .slice none 0 0]] w' fun e w'' => e = .returned (.bool true) ∧ Below w'.heap.size w' w'')
    (O1 : Int) (M1 P1 : ByteArray) (K1 : Int) (B1 : Bool) (I1 : Int) (T1 : ByteArray) (pa1 pb1 : Option Addr) (na1 nb1 ca1 cb1 : Nat)
    (x10 : w.cell? ⟨g1, 9, none⟩ = some (.int .i64 O1))
    (x11 : w.cell? ⟨g1, 10, none⟩ = some (.slice pa1 na1 ca1))
    (x12 : w.cell? ⟨g1, 11, none⟩ = some (.string M1))
    (x13 : w.cell? ⟨g1, 12, none⟩ = some (.string P1))
    (x14 : w.cell? ⟨g1, 13, none⟩ = some (.int .i64 K1))
    (x15 : w.cell? ⟨g1, 14, none⟩ = some (.bool B1))
    (x16 : w.cell? ⟨g1, 15, none⟩ = some (.int .i64 I1))
    (x17 : w.cell? ⟨g1, 16, none⟩ = some (.string T1))
    (x18 : w.cell? ⟨g1, 17, none⟩ = some (.slice none 0 0))
    (y10 : w.cell? ⟨g2, 9, none⟩ = some (.int .i64 O1))
    (y11 : w.cell? ⟨g2, 10, none⟩ = some (.slice pb1 nb1 cb1))
    (y12 : w.cell? ⟨g2, 11, none⟩ = some (.string M1))
    (y13 : w.cell? ⟨g2, 12, none⟩ = some (.string P1))
    (y14 : w.cell? ⟨g2, 13, none⟩ = some (.int .i64 K1))
    (y15 : w.cell? ⟨g2, 14, none⟩ = some (.bool B1))
    (y16 : w.cell? ⟨g2, 15, none⟩ = some (.int .i64 I1))
    (y17 : w.cell? ⟨g2, 16, none⟩ = some (.string T1))
    (y18 : w.cell? ⟨g2, 17, none⟩ = some (.slice none 0 0))
    (hk1 : ∀ w', Below w.heap.size w w' → Calls Tryz.prog 15 #[.agg #[.int .i64 O1, .slice pa1 na1 ca1, .string M1, .string P1, .int .i64 K1, .bool B1, .int .i64 I1, .string T1, .slice none 0 0], .agg #[.int .i64 O1, .slice pb1 nb1 cb1, .string M1, .string P1, .int .i64 K1, .bool B1, .int .i64 I1, .string T1, .slice none 0 0]] w' fun e w'' => e = .returned (.bool true) ∧ Below w'.heap.size w' w'') :
    Calls Tryz.prog 15 #[.agg #[.int .i64 O, .slice (some ⟨g1, 0, none⟩) 2 2, .string M, .string P, .int .i64 K, .bool B, .int .i64 I, .string T, .slice none 0 0], .agg #[.int .i64 O, .slice (some ⟨g2, 0, none⟩) 2 2, .string M, .string P, .int .i64 K, .bool B, .int .i64 I, .string T, .slice none 0 0]] w fun e w' => e = .returned (.bool true) ∧ Below w.heap.size w w' := by
  have hb : Below w.heap.size w ((w.alloc (.cells #[.int .i64 O, .slice (some ⟨g1, 0, none⟩) 2 2, .string M, .string P, .int .i64 K, .bool B, .int .i64 I, .string T, .slice none 0 0] 40)).alloc (.cells #[.int .i64 O, .slice (some ⟨g2, 0, none⟩) 2 2, .string M, .string P, .int .i64 K, .bool B, .int .i64 I, .string T, .slice none 0 0] 40)) := by go_grown
  have B1 := (Blk.new w [.int .i64 O, .slice (some ⟨g1, 0, none⟩) 2 2, .string M, .string P, .int .i64 K, .bool B, .int .i64 I, .string T, .slice none 0 0] 40).grown (below_new _ (.cells #[.int .i64 O, .slice (some ⟨g2, 0, none⟩) 2 2, .string M, .string P, .int .i64 K, .bool B, .int .i64 I, .string T, .slice none 0 0] 40))
  have B2 := Blk.new (w.alloc (.cells #[.int .i64 O, .slice (some ⟨g1, 0, none⟩) 2 2, .string M, .string P, .int .i64 K, .bool B, .int .i64 I, .string T, .slice none 0 0] 40)) [.int .i64 O, .slice (some ⟨g2, 0, none⟩) 2 2, .string M, .string P, .int .i64 K, .bool B, .int .i64 I, .string T, .slice none 0 0] 40
  have e1 : (w.alloc (.cells #[.int .i64 O, .slice (some ⟨g1, 0, none⟩) 2 2, .string M, .string P, .int .i64 K, .bool B, .int .i64 I, .string T, .slice none 0 0] 40)).heap.size = w.heap.size + 1 := by simp
  rw [e1] at B2
  have hv := fun w => sameV_yes K B I T w
  replace hv : Hid _ := hv
  go_enter Tryz.func15, Tryz.ntmps15
  go_upto_region 1 with fail
  have hW : ∃ W, W = (w.alloc (.cells #[.int .i64 O, .slice (some ⟨g1, 0, none⟩) 2 2, .string M, .string P, .int .i64 K, .bool B, .int .i64 I, .string T, .slice none 0 0] 40)).alloc (.cells #[.int .i64 O, .slice (some ⟨g2, 0, none⟩) 2 2, .string M, .string P, .int .i64 K, .bool B, .int .i64 I, .string T, .slice none 0 0] 40) := ⟨_, rfl⟩
  obtain ⟨W, hW⟩ := hW
  rw [← hW] at hb B1 B2 ⊢
  have i0 : W.cell? ⟨w.heap.size, 0, none⟩ = some (.int .i64 O) := B1.c 0 (by simp)
  have i1 : W.cell? ⟨w.heap.size, 1, none⟩ = some (.slice (some ⟨g1, 0, none⟩) 2 2) := B1.c 1 (by simp)
  have i2 : W.cell? ⟨w.heap.size, 2, none⟩ = some (.string M) := B1.c 2 (by simp)
  have i3 : W.cell? ⟨w.heap.size, 3, none⟩ = some (.string P) := B1.c 3 (by simp)
  have i4 : W.cell? ⟨w.heap.size, 4, none⟩ = some (.int .i64 K) := B1.c 4 (by simp)
  have i5 : W.cell? ⟨w.heap.size, 5, none⟩ = some (.bool B) := B1.c 5 (by simp)
  have i6 : W.cell? ⟨w.heap.size, 6, none⟩ = some (.int .i64 I) := B1.c 6 (by simp)
  have i7 : W.cell? ⟨w.heap.size, 7, none⟩ = some (.string T) := B1.c 7 (by simp)
  have i8 : W.cell? ⟨w.heap.size, 8, none⟩ = some (.slice none 0 0) := B1.c 8 (by simp)
  have j0 : W.cell? ⟨w.heap.size + 1, 0, none⟩ = some (.int .i64 O) := B2.c 0 (by simp)
  have j1 : W.cell? ⟨w.heap.size + 1, 1, none⟩ = some (.slice (some ⟨g2, 0, none⟩) 2 2) := B2.c 1 (by simp)
  have j2 : W.cell? ⟨w.heap.size + 1, 2, none⟩ = some (.string M) := B2.c 2 (by simp)
  have j3 : W.cell? ⟨w.heap.size + 1, 3, none⟩ = some (.string P) := B2.c 3 (by simp)
  have j4 : W.cell? ⟨w.heap.size + 1, 4, none⟩ = some (.int .i64 K) := B2.c 4 (by simp)
  have j5 : W.cell? ⟨w.heap.size + 1, 5, none⟩ = some (.bool B) := B2.c 5 (by simp)
  have j6 : W.cell? ⟨w.heap.size + 1, 6, none⟩ = some (.int .i64 I) := B2.c 6 (by simp)
  have j7 : W.cell? ⟨w.heap.size + 1, 7, none⟩ = some (.string T) := B2.c 7 (by simp)
  have j8 : W.cell? ⟨w.heap.size + 1, 8, none⟩ = some (.slice none 0 0) := B2.c 8 (by simp)
  clear hW
  go_upto_region 2 with ((with_reducible refine Calls.mono (hv.out _) ?_); rintro e w2 ⟨rfl, hb2⟩)
  have hb3 := below_on hb hb2
  have C1 := B1.grown hb2
  have C2 := B2.grown hb2
  clear i0 j0 i1 j1 i2 j2 i3 j3 i4 j4 i5 j5 i6 j6 i7 j7 i8 j8
  have i0 : w2.cell? ⟨w.heap.size, 0, none⟩ = some (.int .i64 O) := C1.c 0 (by simp)
  have i1 : w2.cell? ⟨w.heap.size, 1, none⟩ = some (.slice (some ⟨g1, 0, none⟩) 2 2) := C1.c 1 (by simp)
  have i2 : w2.cell? ⟨w.heap.size, 2, none⟩ = some (.string M) := C1.c 2 (by simp)
  have i3 : w2.cell? ⟨w.heap.size, 3, none⟩ = some (.string P) := C1.c 3 (by simp)
  have i4 : w2.cell? ⟨w.heap.size, 4, none⟩ = some (.int .i64 K) := C1.c 4 (by simp)
  have i5 : w2.cell? ⟨w.heap.size, 5, none⟩ = some (.bool B) := C1.c 5 (by simp)
  have i6 : w2.cell? ⟨w.heap.size, 6, none⟩ = some (.int .i64 I) := C1.c 6 (by simp)
  have i7 : w2.cell? ⟨w.heap.size, 7, none⟩ = some (.string T) := C1.c 7 (by simp)
  have i8 : w2.cell? ⟨w.heap.size, 8, none⟩ = some (.slice none 0 0) := C1.c 8 (by simp)
  have j0 : w2.cell? ⟨w.heap.size + 1, 0, none⟩ = some (.int .i64 O) := C2.c 0 (by simp)
  have j1 : w2.cell? ⟨w.heap.size + 1, 1, none⟩ = some (.slice (some ⟨g2, 0, none⟩) 2 2) := C2.c 1 (by simp)
  have j2 : w2.cell? ⟨w.heap.size + 1, 2, none⟩ = some (.string M) := C2.c 2 (by simp)
  have j3 : w2.cell? ⟨w.heap.size + 1, 3, none⟩ = some (.string P) := C2.c 3 (by simp)
  have j4 : w2.cell? ⟨w.heap.size + 1, 4, none⟩ = some (.int .i64 K) := C2.c 4 (by simp)
  have j5 : w2.cell? ⟨w.heap.size + 1, 5, none⟩ = some (.bool B) := C2.c 5 (by simp)
  have j6 : w2.cell? ⟨w.heap.size + 1, 6, none⟩ = some (.int .i64 I) := C2.c 6 (by simp)
  have j7 : w2.cell? ⟨w.heap.size + 1, 7, none⟩ = some (.string T) := C2.c 7 (by simp)
  have j8 : w2.cell? ⟨w.heap.size + 1, 8, none⟩ = some (.slice none 0 0) := C2.c 8 (by simp)
  clear B1 B2 hb2 hb hv
  go_wp2_with fail
  clear C1 C2
  go_loopw [6] (fun i wr => (i = .int .i64 0 ∨ i = .int .i64 1 ∨ i = .int .i64 2) ∧ Below w2.heap.size w2 wr) (fun i _ => 2 - (intOf i).toNat)
  case atStart => exact ⟨.inl rfl, Below.refl _ _⟩
  case round =>
    obtain ⟨hi, hbx⟩ := hrel
    have hbw := below_on hb3 hbx
    have lx : w.heap.size < w2.heap.size := World.block_lt_of_cell? w2 _ i1
    have ly : w.heap.size + 1 < w2.heap.size := World.block_lt_of_cell? w2 _ j1
    replace i1 := (hbx.cell (p := ⟨w.heap.size, 1, none⟩) lx).trans i1
    replace j1 := (hbx.cell (p := ⟨w.heap.size + 1, 1, none⟩) ly).trans j1
    clear i0 i2 i3 i4 i5 i6 i7 i8 j0 j2 j3 j4 j5 j6 j7 j8
    rcases hi with rfl | rfl | rfl
    · have cS : ∀ d os, Calls Tryz.prog 15 #[.agg #[.int .i64 O0, .slice pa0 na0 ca0, .string M0, .string P0, .int .i64 K0, .bool B0, .int .i64 I0, .string T0, .slice none 0 0], .agg #[.int .i64 O0, .slice pb0 nb0 cb0, .string M0, .string P0, .int .i64 K0, .bool B0, .int .i64 I0, .string T0, .slice none 0 0]] (grow (redrawn wr d) os) fun e w'' => e = .returned (.bool true) ∧ ∃ p : Regrown, w'' = grow (redrawn wr p.d) p.os := fun d os => Calls.regrown_of (hk0 _ (below_on hbw (below_regrown wr d os)))
      have xf0 := cell_regrown ((hbw.cell (p := ⟨g1, 0, none⟩) (World.block_lt_of_cell? w _ x00)).trans x00)
      have xf1 := cell_regrown ((hbw.cell (p := ⟨g1, 1, none⟩) (World.block_lt_of_cell? w _ x01)).trans x01)
      have xf2 := cell_regrown ((hbw.cell (p := ⟨g1, 2, none⟩) (World.block_lt_of_cell? w _ x02)).trans x02)
      have xf3 := cell_regrown ((hbw.cell (p := ⟨g1, 3, none⟩) (World.block_lt_of_cell? w _ x03)).trans x03)
      have xf4 := cell_regrown ((hbw.cell (p := ⟨g1, 4, none⟩) (World.block_lt_of_cell? w _ x04)).trans x04)
      have xf5 := cell_regrown ((hbw.cell (p := ⟨g1, 5, none⟩) (World.block_lt_of_cell? w _ x05)).trans x05)
      have xf6 := cell_regrown ((hbw.cell (p := ⟨g1, 6, none⟩) (World.block_lt_of_cell? w _ x06)).trans x06)
      have xf7 := cell_regrown ((hbw.cell (p := ⟨g1, 7, none⟩) (World.block_lt_of_cell? w _ x07)).trans x07)
      have xf8 := cell_regrown ((hbw.cell (p := ⟨g1, 8, none⟩) (World.block_lt_of_cell? w _ x08)).trans x08)
      have yf0 := cell_regrown ((hbw.cell (p := ⟨g2, 0, none⟩) (World.block_lt_of_cell? w _ y00)).trans y00)
      have yf1 := cell_regrown ((hbw.cell (p := ⟨g2, 1, none⟩) (World.block_lt_of_cell? w _ y01)).trans y01)
      have yf2 := cell_regrown ((hbw.cell (p := ⟨g2, 2, none⟩) (World.block_lt_of_cell? w _ y02)).trans y02)
      have yf3 := cell_regrown ((hbw.cell (p := ⟨g2, 3, none⟩) (World.block_lt_of_cell? w _ y03)).trans y03)
      have yf4 := cell_regrown ((hbw.cell (p := ⟨g2, 4, none⟩) (World.block_lt_of_cell? w _ y04)).trans y04)
      have yf5 := cell_regrown ((hbw.cell (p := ⟨g2, 5, none⟩) (World.block_lt_of_cell? w _ y05)).trans y05)
      have yf6 := cell_regrown ((hbw.cell (p := ⟨g2, 6, none⟩) (World.block_lt_of_cell? w _ y06)).trans y06)
      have yf7 := cell_regrown ((hbw.cell (p := ⟨g2, 7, none⟩) (World.block_lt_of_cell? w _ y07)).trans y07)
      have yf8 := cell_regrown ((hbw.cell (p := ⟨g2, 8, none⟩) (World.block_lt_of_cell? w _ y08)).trans y08)
      have fi := cell_regrown i1
      have fj := cell_regrown j1
      replace cS : Hid _ := cS
      go_wp2_with fail
      refine wp_region_quiet_below (by kernel_rfl) (by kernel_rfl) ?_
      repeat (first | go_big_quiet_step (with_reducible exact cS.out _ _) | quiet_step (with_reducible exact cS.out _ _))
      refine wpQuiet_nil ?_
      intro _ hw'
      obtain ⟨⟨dq, osq⟩, hw''⟩ := hw'
      subst hw''
      have hb5 := below_on hbx (below_regrown wr dq osq)
      clear fi fj cS xf0 yf0 xf1 yf1 xf2 yf2 xf3 yf3 xf4 yf4 xf5 yf5 xf6 yf6 xf7 yf7 xf8 yf8
      generalize grow (redrawn wr dq) osq = w3 at hb5 ⊢
      go_wp2_with fail
      exact ⟨⟨by simp, hb5⟩, by decide⟩
    · have cS : ∀ d os, Calls Tryz.prog 15 #[.agg #[.int .i64 O1, .slice pa1 na1 ca1, .string M1, .string P1, .int .i64 K1, .bool B1, .int .i64 I1, .string T1, .slice none 0 0], .agg #[.int .i64 O1, .slice pb1 nb1 cb1, .string M1, .string P1, .int .i64 K1, .bool B1, .int .i64 I1, .string T1, .slice none 0 0]] (grow (redrawn wr d) os) fun e w'' => e = .returned (.bool true) ∧ ∃ p : Regrown, w'' = grow (redrawn wr p.d) p.os := fun d os => Calls.regrown_of (hk1 _ (below_on hbw (below_regrown wr d os)))
      have xf0 := cell_regrown ((hbw.cell (p := ⟨g1, 9, none⟩) (World.block_lt_of_cell? w _ x10)).trans x10)
      have xf1 := cell_regrown ((hbw.cell (p := ⟨g1, 10, none⟩) (World.block_lt_of_cell? w _ x11)).trans x11)
      have xf2 := cell_regrown ((hbw.cell (p := ⟨g1, 11, none⟩) (World.block_lt_of_cell? w _ x12)).trans x12)
      have xf3 := cell_regrown ((hbw.cell (p := ⟨g1, 12, none⟩) (World.block_lt_of_cell? w _ x13)).trans x13)
      have xf4 := cell_regrown ((hbw.cell (p := ⟨g1, 13, none⟩) (World.block_lt_of_cell? w _ x14)).trans x14)
      have xf5 := cell_regrown ((hbw.cell (p := ⟨g1, 14, none⟩) (World.block_lt_of_cell? w _ x15)).trans x15)
      have xf6 := cell_regrown ((hbw.cell (p := ⟨g1, 15, none⟩) (World.block_lt_of_cell? w _ x16)).trans x16)
      have xf7 := cell_regrown ((hbw.cell (p := ⟨g1, 16, none⟩) (World.block_lt_of_cell? w _ x17)).trans x17)
      have xf8 := cell_regrown ((hbw.cell (p := ⟨g1, 17, none⟩) (World.block_lt_of_cell? w _ x18)).trans x18)
      have yf0 := cell_regrown ((hbw.cell (p := ⟨g2, 9, none⟩) (World.block_lt_of_cell? w _ y10)).trans y10)
      have yf1 := cell_regrown ((hbw.cell (p := ⟨g2, 10, none⟩) (World.block_lt_of_cell? w _ y11)).trans y11)
      have yf2 := cell_regrown ((hbw.cell (p := ⟨g2, 11, none⟩) (World.block_lt_of_cell? w _ y12)).trans y12)
      have yf3 := cell_regrown ((hbw.cell (p := ⟨g2, 12, none⟩) (World.block_lt_of_cell? w _ y13)).trans y13)
      have yf4 := cell_regrown ((hbw.cell (p := ⟨g2, 13, none⟩) (World.block_lt_of_cell? w _ y14)).trans y14)
      have yf5 := cell_regrown ((hbw.cell (p := ⟨g2, 14, none⟩) (World.block_lt_of_cell? w _ y15)).trans y15)
      have yf6 := cell_regrown ((hbw.cell (p := ⟨g2, 15, none⟩) (World.block_lt_of_cell? w _ y16)).trans y16)
      have yf7 := cell_regrown ((hbw.cell (p := ⟨g2, 16, none⟩) (World.block_lt_of_cell? w _ y17)).trans y17)
      have yf8 := cell_regrown ((hbw.cell (p := ⟨g2, 17, none⟩) (World.block_lt_of_cell? w _ y18)).trans y18)
      have fi := cell_regrown i1
      have fj := cell_regrown j1
      replace cS : Hid _ := cS
      go_wp2_with fail
      refine wp_region_quiet_below (by kernel_rfl) (by kernel_rfl) ?_
      repeat (first | go_big_quiet_step (with_reducible exact cS.out _ _) | quiet_step (with_reducible exact cS.out _ _))
      refine wpQuiet_nil ?_
      intro _ hw'
      obtain ⟨⟨dq, osq⟩, hw''⟩ := hw'
      subst hw''
      have hb5 := below_on hbx (below_regrown wr dq osq)
      clear fi fj cS xf0 yf0 xf1 yf1 xf2 yf2 xf3 yf3 xf4 yf4 xf5 yf5 xf6 yf6 xf7 yf7 xf8 yf8
      generalize grow (redrawn wr dq) osq = w3 at hb5 ⊢
      go_wp2_with fail
      exact ⟨⟨by simp, hb5⟩, by decide⟩
    · go_wp2_with fail
      go_returns
      exact ⟨by simp, hbw⟩
end Go.Proofs.YtefenbonjepjgaaGreatDoor
namespace Go.Proofs.YtefenbonjepjgaaGreatDoor
open Go.ChangeShapes Go.WideShapes Go.ChangeAt Go.RowKit
set_option linter.unusedSimpArgs false
set_option linter.unusedVariables false

/-- Expressions of the same content are the same. -/
theorem sameE_yes : ∀ (x : Ex) (p q : Option Addr) (n m c d : Nat) (S S' : Nat → Prop) (w : World), ExAt w S x (.slice p n c) → ExAt w S' x (.slice q m d) →
    Calls Tryz.prog 15 #[.agg #[.int .i64 (opE x), .slice p n c, .string (txt (nmE x)), .string (txt (prE x)), .int .i64 (kE x), .bool (bE x), .int .i64 (nE x), .string (txt (tE x)), .slice none 0 0], .agg #[.int .i64 (opE x), .slice q m d, .string (txt (nmE x)), .string (txt (prE x)), .int .i64 (kE x), .bool (bE x), .int .i64 (nE x), .string (txt (tE x)), .slice none 0 0]] w fun e w' => e = .returned (.bool true) ∧ Below w.heap.size w w'
  | .leaf o nm pr k b nn t, p, q, n, m, c, d, S, S', w, h1, h2 => by
    cases h1
    cases h2
    exact sameE0 _ _ _ _ _ _ _ w
  | .one o y, p, q, n, m, c, d, S, S', w, ⟨g, k1, e, _, r1, h1⟩, ⟨g', k2, e', _, r2, h2⟩ => by
    cases e
    cases e'
    obtain ⟨pa, na, ca, rfl⟩ := h1.slice
    obtain ⟨pb, nb, cb, rfl⟩ := h2.slice
    obtain ⟨a0, a1, a2, a3, a4, a5, a6, a7, a8⟩ := r1
    obtain ⟨b0, b1, b2, b3, b4, b5, b6, b7, b8⟩ := r2
    exact sameE1 _ _ _ _ _ _ _ g g' w _ _ _ _ _ _ _ pa pb na nb ca cb a0 a1 a2 a3 a4 a5 a6 a7 a8 b0 b1 b2 b3 b4 b5 b6 b7 b8 (fun w' hb => sameE_yes y _ _ _ _ _ _ S S' w' (h1.keep hb) (h2.keep hb))
  | .two o y z, p, q, n, m, c, d, S, S', w, ⟨g, k1, l1, e, _, r1, s1, h1, i1⟩, ⟨g', k2, l2, e', _, r2, s2, h2, i2⟩ => by
    cases e
    cases e'
    obtain ⟨pa, na, ca, rfl⟩ := h1.slice
    obtain ⟨pb, nb, cb, rfl⟩ := h2.slice
    obtain ⟨pa', na', ca', rfl⟩ := i1.slice
    obtain ⟨pb', nb', cb', rfl⟩ := i2.slice
    obtain ⟨a0, a1, a2, a3, a4, a5, a6, a7, a8⟩ := r1
    obtain ⟨b0, b1, b2, b3, b4, b5, b6, b7, b8⟩ := r2
    obtain ⟨x0, x1, x2, x3, x4, x5, x6, x7, x8⟩ := s1
    obtain ⟨y0, y1, y2, y3, y4, y5, y6, y7, y8⟩ := s2
    exact sameE2 _ _ _ _ _ _ _ g g' w _ _ _ _ _ _ _ pa pb na nb ca cb a0 a1 a2 a3 a4 a5 a6 a7 a8 b0 b1 b2 b3 b4 b5 b6 b7 b8 (fun w' hb => sameE_yes y _ _ _ _ _ _ S S' w' (h1.keep hb) (h2.keep hb))
      _ _ _ _ _ _ _ pa' pb' na' nb' ca' cb' x0 x1 x2 x3 x4 x5 x6 x7 x8 y0 y1 y2 y3 y4 y5 y6 y7 y8 (fun w' hb => sameE_yes z _ _ _ _ _ _ S S' w' (i1.keep hb) (i2.keep hb))

theorem flat_at (k : Nat) : ∀ (C : List (List Value)) (i : Nat) (c : List Value) (q : Nat), (∀ d ∈ C, d.length = k) → C[i]? = some c → q < k → C.flatten[i * k + q]? = c[q]?
  | [], i, c, q, _, h, _ => by simp at h
  | d :: C, 0, c, q, hk, h, hq => by
    simp at h
    subst h
    rw [List.flatten_cons, Nat.zero_mul, Nat.zero_add, List.getElem?_append_left (by rw [hk d (List.mem_cons_self ..)]; exact hq)]
  | d :: C, i + 1, c, q, hk, h, hq => by
    have hd := hk d (List.mem_cons_self ..)
    rw [List.flatten_cons, List.getElem?_append_right (by rw [hd, Nat.succ_mul]; omega), hd, show (i + 1) * k + q - k = i * k + q by rw [Nat.succ_mul]; omega]
    exact flat_at k C i c q (fun d hd => hk d (List.mem_cons_of_mem _ hd)) (by simpa using h) hq
theorem Ls.get {α : Type} {E : Elt α} {S : Nat → Prop} {w : World} : ∀ {l : List α} {C : List (List Value)}, Ls E S w l C → C.length = l.length ∧ (∀ d ∈ C, d.length = E.size) ∧ ∀ (i : Nat) (x : α), l[i]? = some x → ∃ c, C[i]? = some c ∧ E.at' x c S w
  | [], [], _ => ⟨rfl, by simp, fun i x h => by simp at h⟩
  | x :: l, c :: C, ⟨h1, h2⟩ => by
    obtain ⟨k1, k2, k3⟩ := Ls.get h2
    refine ⟨by simp [k1], fun d hd => ?_, fun i y h => ?_⟩
    · rcases List.mem_cons.1 hd with rfl | hd
      · exact E.len _ _ _ _ h1
      · exact k2 d hd
    · cases i with
      | zero => simp at h; subst h; exact ⟨c, rfl, h1⟩
      | succ i => exact k3 i y (by simpa using h)
/-- A list in memory, element by element. -/
theorem RowS.read {α : Type} {E : Elt α} {t : TypeId} {S : Nat → Prop} {l : List α} {v : Value} {w : World} (h : RowS E t S l v w) : (l = [] ∧ ∃ p c, v = .slice p 0 c) ∨
    ∃ g o cap, v = .slice (some ⟨g, o, none⟩) l.length cap ∧ l.length ≤ maxLen ∧ ∀ (i : Nat) (x : α), l[i]? = some x → ∃ c, E.at' x c S w ∧ ∀ (q : Nat) (u : Value), c[q]? = some u → w.cell? ⟨g, o + i * E.size + q, none⟩ = some u := by
  obtain ⟨C, h1, h2, h3⟩ := h
  obtain ⟨k1, k2, k3⟩ := h3.get
  have hh := h1
  obtain ⟨_, ⟨e1, e2⟩ | ⟨g, cap, cur, e1, _, e3, e4, e5, _⟩⟩ := hh
  · refine .inl ⟨List.length_eq_zero_iff.1 e2, none, 0, ?_⟩
    exact e1
  · subst e1
    refine .inr ⟨g, 0, cap, rfl, by omega, fun i x hx => ?_⟩
    obtain ⟨c, hc, ha⟩ := k3 i x hx
    refine ⟨c, ha, fun q u hu => ?_⟩
    have hi := (List.getElem?_eq_some_iff.1 hx).1
    have hq : q < E.size := by
      have := (List.getElem?_eq_some_iff.1 hu).1
      rw [E.len _ _ _ _ ha] at this
      exact this
    rw [Nat.zero_add, h1.cellAt (i * E.size + q) (by
      have : (i + 1) * E.size ≤ l.length * E.size := Nat.mul_le_mul_right _ hi
      rw [Nat.succ_mul] at this
      omega), flat_at E.size C i c q k2 hc hq]
    exact hu
theorem RowS.below {α : Type} {E : Elt α} {t : TypeId} {S : Nat → Prop} {l : List α} {v : Value} {w w' : World} (h : RowS E t S l v w) (hb : Below w.heap.size w w') : RowS E t S l v w' := h.keep fun g _ hl => hb.block g hl
end Go.Proofs.YtefenbonjepjgaaGreatDoor
namespace Go.Proofs.YtefenbonjepjgaaGreatDoor
open Go.ChangeShapes Go.WideShapes Go.ChangeAt Go.RowKit Go.Sort
set_option linter.unusedSimpArgs false
set_option linter.unusedVariables false

theorem RowS.read2 {α : Type} {E : Elt α} {t : TypeId} {S : Nat → Prop} {l : List α} {v : Value} {w : World} (h : RowS E t S l v w) : ∃ p c, v = .slice p l.length c ∧ l.length ≤ maxLen ∧
    ∀ (i : Nat) (x : α), l[i]? = some x → ∃ g o, p = some ⟨g, o, none⟩ ∧ ∃ c, E.at' x c S w ∧ ∀ (q : Nat) (u : Value), c[q]? = some u → w.cell? ⟨g, o + i * E.size + q, none⟩ = some u := by
  rcases h.read with ⟨rfl, p, c, rfl⟩ | ⟨g, o, cap, rfl, hl, k⟩
  · exact ⟨p, c, rfl, Nat.zero_le _, fun i x hx => by simp at hx⟩
  · exact ⟨_, cap, rfl, hl, fun i x hx => ⟨g, o, rfl, k i x hx⟩⟩

set_option maxRecDepth 100000 in
set_option maxHeartbeats 4000000 in
theorem sameP_yes (ps : List Pt) (v v' : Value) (S S' : Nat → Prop) (w : World) (h1 : RowS EPt 61 S ps v w) (h2 : RowS EPt 61 S' ps v' w) :
    Calls Tryz.prog 23 #[v, v'] w fun e w' => e = .returned (.bool true) ∧ Below w.heap.size w w' := by
  obtain ⟨p, c, rfl, hn, k1⟩ := h1.read2
  obtain ⟨q, d, rfl, _, k2⟩ := h2.read2
  clear h1 h2
  unfold maxLen at hn
  replace k1 : Hid _ := k1
  replace k2 : Hid _ := k2
  go_enter Tryz.func23, Tryz.ntmps23
  go_wp2_with fail
  go_loopw [5] (fun i wr => Below w.heap.size w wr ∧ ∃ j : Nat, j ≤ ps.length ∧ i = .int .i64 j) (fun i _ => ps.length - (intOf i).toNat)
  case atStart => exact ⟨by first | exact Below.refl _ _ | go_grown, 0, by omega, rfl⟩
  case round =>
    obtain ⟨hb, j, hj, rfl⟩ := hrel
    by_cases hlt : j < ps.length
    · obtain ⟨x, hx⟩ : ∃ x, ps[j]? = some x := ⟨_, List.getElem?_eq_getElem hlt⟩
      obtain ⟨g, o, rfl, cs, ⟨p1, c1, p2, c2, rfl, rn, re⟩, kc⟩ := k1.out j x hx
      obtain ⟨g', o', rfl, cs', ⟨q1, d1, q2, d2, rfl, rn', re'⟩, kc'⟩ := k2.out j x hx
      obtain ⟨_, _, e1, hn1, m1⟩ := rn.read2
      obtain ⟨_, _, e2, _, m2⟩ := rn'.read2
      obtain ⟨_, _, e3, hn3, m3⟩ := re.read2
      obtain ⟨_, _, e4, _, m4⟩ := re'.read2
      cases e1
      cases e2
      cases e3
      cases e4
      have hjn : (j : Int) < (ps.length : Int) := by omega
      unfold maxLen at hn1 hn3
      clear rn rn' re re'
      have X0 : w.cell? ⟨g, o + j * 2, none⟩ = some (.slice p1 x.nodes.length c1) := kc 0 _ rfl
      have X1 : w.cell? ⟨g, o + j * 2 + 1, none⟩ = some (.slice p2 x.edges.length c2) := kc 1 _ rfl
      have Y0 : w.cell? ⟨g', o' + j * 2, none⟩ = some (.slice q1 x.nodes.length d1) := kc' 0 _ rfl
      have Y1 : w.cell? ⟨g', o' + j * 2 + 1, none⟩ = some (.slice q2 x.edges.length d2) := kc' 1 _ rfl
      clear kc kc' k1 k2
      generalize hNN : x.nodes.length = nn at *
      generalize hEE : x.edges.length = ne at *
      replace m1 : Hid _ := m1
      replace m2 : Hid _ := m2
      replace m3 : Hid _ := m3
      replace m4 : Hid _ := m4
      have x0 := cell_regrown ((hb.cell (p := ⟨g, o + j * 2, none⟩) (World.block_lt_of_cell? w _ X0)).trans X0)
      have x1 := cell_regrown ((hb.cell (p := ⟨g, o + j * 2 + 1, none⟩) (World.block_lt_of_cell? w _ X1)).trans X1)
      have y0 := cell_regrown ((hb.cell (p := ⟨g', o' + j * 2, none⟩) (World.block_lt_of_cell? w _ Y0)).trans Y0)
      have y1 := cell_regrown ((hb.cell (p := ⟨g', o' + j * 2 + 1, none⟩) (World.block_lt_of_cell? w _ Y1)).trans Y1)
      go_wp2_with fail
      refine wp_region_quiet_below (by kernel_rfl) (by kernel_rfl) ?_
      repeat (first | go_big_quiet_step (fail) | quiet_step (fail))
      refine wpQuiet_nil ?_
      intro _ hw'
      obtain ⟨⟨dq, osq⟩, hw''⟩ := hw'
      subst hw''
      have hb3 := below_on hb (below_regrown wr dq osq)
      clear x0 x1 y0 y1
      generalize grow (redrawn wr dq) osq = w3 at hb3 ⊢
      have bb := hb3
      have x0 := (hb3.cell (p := ⟨g, o + j * 2, none⟩) (World.block_lt_of_cell? w _ X0)).trans X0
      have x1 := (hb3.cell (p := ⟨g, o + j * 2 + 1, none⟩) (World.block_lt_of_cell? w _ X1)).trans X1
      have y0 := (hb3.cell (p := ⟨g', o' + j * 2, none⟩) (World.block_lt_of_cell? w _ Y0)).trans Y0
      have y1 := (hb3.cell (p := ⟨g', o' + j * 2 + 1, none⟩) (World.block_lt_of_cell? w _ Y1)).trans Y1
      go_wp2_with fail
      clear x0 x1 y0 y1 bb
      go_loopw [6] (fun i wr => Below w.heap.size w wr ∧ ∃ k : Nat, k ≤ nn ∧ i = .int .i64 k) (fun i _ => nn - (intOf i).toNat)
      case atStart => exact ⟨hb3, 0, by omega, rfl⟩
      case round =>
        obtain ⟨hbn, k, hk, rfl⟩ := hrel
        have bb := hbn
        have x0 := (hbn.cell (p := ⟨g, o + j * 2, none⟩) (World.block_lt_of_cell? w _ X0)).trans X0
        have x1 := (hbn.cell (p := ⟨g, o + j * 2 + 1, none⟩) (World.block_lt_of_cell? w _ X1)).trans X1
        have y0 := (hbn.cell (p := ⟨g', o' + j * 2, none⟩) (World.block_lt_of_cell? w _ Y0)).trans Y0
        have y1 := (hbn.cell (p := ⟨g', o' + j * 2 + 1, none⟩) (World.block_lt_of_cell? w _ Y1)).trans Y1
        by_cases hkl : k < nn
        · obtain ⟨z, hz⟩ : ∃ z, x.nodes[k]? = some z := ⟨_, List.getElem?_eq_getElem (by omega)⟩
          obtain ⟨gn, on, rfl, cs1, rfl, kn⟩ := m1.out k z hz
          obtain ⟨gn', on', rfl, cs2, rfl, kn'⟩ := m2.out k z hz
          have hkn : (k : Int) < (nn : Int) := by omega
          have Z0 : w.cell? ⟨gn, on + k * 2, none⟩ = some (.string (txt z.v)) := kn 0 _ rfl
          have Z1 : w.cell? ⟨gn, on + k * 2 + 1, none⟩ = some (.string (txt z.l)) := kn 1 _ rfl
          have V0 : w.cell? ⟨gn', on' + k * 2, none⟩ = some (.string (txt z.v)) := kn' 0 _ rfl
          have V1 : w.cell? ⟨gn', on' + k * 2 + 1, none⟩ = some (.string (txt z.l)) := kn' 1 _ rfl
          go_wp2_with fail
          have fx0 := cell_regrown ((hbn.cell (p := ⟨g, o + j * 2, none⟩) (World.block_lt_of_cell? w _ X0)).trans X0)
          have fx1 := cell_regrown ((hbn.cell (p := ⟨g, o + j * 2 + 1, none⟩) (World.block_lt_of_cell? w _ X1)).trans X1)
          have fy0 := cell_regrown ((hbn.cell (p := ⟨g', o' + j * 2, none⟩) (World.block_lt_of_cell? w _ Y0)).trans Y0)
          have fy1 := cell_regrown ((hbn.cell (p := ⟨g', o' + j * 2 + 1, none⟩) (World.block_lt_of_cell? w _ Y1)).trans Y1)
          have fz0 := cell_regrown ((hbn.cell (p := ⟨gn, on + k * 2, none⟩) (World.block_lt_of_cell? w _ Z0)).trans Z0)
          have fz1 := cell_regrown ((hbn.cell (p := ⟨gn, on + k * 2 + 1, none⟩) (World.block_lt_of_cell? w _ Z1)).trans Z1)
          have fv0 := cell_regrown ((hbn.cell (p := ⟨gn', on' + k * 2, none⟩) (World.block_lt_of_cell? w _ V0)).trans V0)
          have fv1 := cell_regrown ((hbn.cell (p := ⟨gn', on' + k * 2 + 1, none⟩) (World.block_lt_of_cell? w _ V1)).trans V1)
          clear x0 x1 y0 y1
          refine wp_region_quiet_below (by kernel_rfl) (by kernel_rfl) ?_
          repeat (first | go_big_quiet_step (fail) | quiet_step (fail))
          refine wpQuiet_nil ?_
          intro _ hw'
          obtain ⟨⟨dq, osq⟩, hw''⟩ := hw'
          subst hw''
          have hb5 := below_on hbn (below_regrown wr dq osq)
          clear fx0 fx1 fy0 fy1 fz0 fv0 fz1 fv1
          generalize grow (redrawn wr dq) osq = w5 at hb5 ⊢
          go_wp2_with fail
          exact ⟨⟨hb5, k + 1, by omega, rfl⟩, by show nn - ((k : Int) + 1).toNat < nn - (k : Int).toNat; omega⟩
        · go_wp2_with fail
          clear bb
          go_loopw [7] (fun i wr => Below w.heap.size w wr ∧ ∃ k : Nat, k ≤ ne ∧ i = .int .i64 k) (fun i _ => ne - (intOf i).toNat)
          case atStart => exact ⟨hbn, 0, by omega, rfl⟩
          case round =>
            obtain ⟨hbe, k, hk, rfl⟩ := hrel
            have bb := hbe
            have x0 := (hbe.cell (p := ⟨g, o + j * 2, none⟩) (World.block_lt_of_cell? w _ X0)).trans X0
            have x1 := (hbe.cell (p := ⟨g, o + j * 2 + 1, none⟩) (World.block_lt_of_cell? w _ X1)).trans X1
            have y0 := (hbe.cell (p := ⟨g', o' + j * 2, none⟩) (World.block_lt_of_cell? w _ Y0)).trans Y0
            have y1 := (hbe.cell (p := ⟨g', o' + j * 2 + 1, none⟩) (World.block_lt_of_cell? w _ Y1)).trans Y1
            by_cases hkl : k < ne
            · obtain ⟨z, hz⟩ : ∃ z, x.edges[k]? = some z := ⟨_, List.getElem?_eq_getElem (by omega)⟩
              obtain ⟨gn, on, rfl, cs1, rfl, kn⟩ := m3.out k z hz
              obtain ⟨gn', on', rfl, cs2, rfl, kn'⟩ := m4.out k z hz
              have hkn : (k : Int) < (ne : Int) := by omega
              have Z0 : w.cell? ⟨gn, on + k * 6, none⟩ = some (.string (txt z.v)) := kn 0 _ rfl
              have Z1 : w.cell? ⟨gn, on + k * 6 + 1, none⟩ = some (.string (txt z.l)) := kn 1 _ rfl
              have Z2 : w.cell? ⟨gn, on + k * 6 + 2, none⟩ = some (.bool z.back) := kn 2 _ rfl
              have Z3 : w.cell? ⟨gn, on + k * 6 + 3, none⟩ = some (.int .i64 z.mode) := kn 3 _ rfl
              have Z4 : w.cell? ⟨gn, on + k * 6 + 4, none⟩ = some (.int .i64 z.lo) := kn 4 _ rfl
              have Z5 : w.cell? ⟨gn, on + k * 6 + 5, none⟩ = some (.int .i64 z.hi) := kn 5 _ rfl
              have V0 : w.cell? ⟨gn', on' + k * 6, none⟩ = some (.string (txt z.v)) := kn' 0 _ rfl
              have V1 : w.cell? ⟨gn', on' + k * 6 + 1, none⟩ = some (.string (txt z.l)) := kn' 1 _ rfl
              have V2 : w.cell? ⟨gn', on' + k * 6 + 2, none⟩ = some (.bool z.back) := kn' 2 _ rfl
              have V3 : w.cell? ⟨gn', on' + k * 6 + 3, none⟩ = some (.int .i64 z.mode) := kn' 3 _ rfl
              have V4 : w.cell? ⟨gn', on' + k * 6 + 4, none⟩ = some (.int .i64 z.lo) := kn' 4 _ rfl
              have V5 : w.cell? ⟨gn', on' + k * 6 + 5, none⟩ = some (.int .i64 z.hi) := kn' 5 _ rfl
              go_wp2_with fail
              have fx0 := cell_regrown ((hbe.cell (p := ⟨g, o + j * 2, none⟩) (World.block_lt_of_cell? w _ X0)).trans X0)
              have fx1 := cell_regrown ((hbe.cell (p := ⟨g, o + j * 2 + 1, none⟩) (World.block_lt_of_cell? w _ X1)).trans X1)
              have fy0 := cell_regrown ((hbe.cell (p := ⟨g', o' + j * 2, none⟩) (World.block_lt_of_cell? w _ Y0)).trans Y0)
              have fy1 := cell_regrown ((hbe.cell (p := ⟨g', o' + j * 2 + 1, none⟩) (World.block_lt_of_cell? w _ Y1)).trans Y1)
              have fz0 := cell_regrown ((hbe.cell (p := ⟨gn, on + k * 6, none⟩) (World.block_lt_of_cell? w _ Z0)).trans Z0)
              have fz1 := cell_regrown ((hbe.cell (p := ⟨gn, on + k * 6 + 1, none⟩) (World.block_lt_of_cell? w _ Z1)).trans Z1)
              have fz2 := cell_regrown ((hbe.cell (p := ⟨gn, on + k * 6 + 2, none⟩) (World.block_lt_of_cell? w _ Z2)).trans Z2)
              have fz3 := cell_regrown ((hbe.cell (p := ⟨gn, on + k * 6 + 3, none⟩) (World.block_lt_of_cell? w _ Z3)).trans Z3)
              have fz4 := cell_regrown ((hbe.cell (p := ⟨gn, on + k * 6 + 4, none⟩) (World.block_lt_of_cell? w _ Z4)).trans Z4)
              have fz5 := cell_regrown ((hbe.cell (p := ⟨gn, on + k * 6 + 5, none⟩) (World.block_lt_of_cell? w _ Z5)).trans Z5)
              have fv0 := cell_regrown ((hbe.cell (p := ⟨gn', on' + k * 6, none⟩) (World.block_lt_of_cell? w _ V0)).trans V0)
              have fv1 := cell_regrown ((hbe.cell (p := ⟨gn', on' + k * 6 + 1, none⟩) (World.block_lt_of_cell? w _ V1)).trans V1)
              have fv2 := cell_regrown ((hbe.cell (p := ⟨gn', on' + k * 6 + 2, none⟩) (World.block_lt_of_cell? w _ V2)).trans V2)
              have fv3 := cell_regrown ((hbe.cell (p := ⟨gn', on' + k * 6 + 3, none⟩) (World.block_lt_of_cell? w _ V3)).trans V3)
              have fv4 := cell_regrown ((hbe.cell (p := ⟨gn', on' + k * 6 + 4, none⟩) (World.block_lt_of_cell? w _ V4)).trans V4)
              have fv5 := cell_regrown ((hbe.cell (p := ⟨gn', on' + k * 6 + 5, none⟩) (World.block_lt_of_cell? w _ V5)).trans V5)
              clear x0 x1 y0 y1
              refine wp_region_quiet_below (by kernel_rfl) (by kernel_rfl) ?_
              repeat (first | go_big_quiet_step (fail) | quiet_step (fail))
              refine wpQuiet_nil ?_
              intro _ hw'
              obtain ⟨⟨dq, osq⟩, hw''⟩ := hw'
              subst hw''
              have hb5 := below_on hbe (below_regrown wr dq osq)
              clear fx0 fx1 fy0 fy1 fz0 fv0 fz1 fv1 fz2 fv2 fz3 fv3 fz4 fv4 fz5 fv5
              generalize grow (redrawn wr dq) osq = w5 at hb5 ⊢
              go_wp2_with fail
              exact ⟨⟨hb5, k + 1, by omega, rfl⟩, by show ne - ((k : Int) + 1).toNat < ne - (k : Int).toNat; omega⟩
            · go_wp2_with fail
              exact ⟨⟨hbe, j + 1, by omega, rfl⟩, by show ps.length - ((j : Int) + 1).toNat < ps.length - (j : Int).toNat; omega⟩
    · go_wp2_with fail
      go_returns
      exact ⟨by simp, hb⟩
end Go.Proofs.YtefenbonjepjgaaGreatDoor
