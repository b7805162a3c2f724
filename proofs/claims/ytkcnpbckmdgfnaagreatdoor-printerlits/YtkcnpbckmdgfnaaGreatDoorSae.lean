/-
  SameExpr: expressions whose contents are alike are told to be the same.
  Lists of elements that lie in memory, read element by element; expressions that are alike are told to be the same.
  samePatterns: patterns of the same content are told to be the same.
-/
import Derived.Test.YtkcnpbckmdgfnaaGreatDoorPae
import Derived.BigQuiet
import Derived.Lib.QuietBelow
namespace Go.Proofs.YtkcnpbckmdgfnaaGreatDoor
open Go.ChangeShapes Go.WideShapes Go.ChangeAt Go.RowKit Go.Sort
set_option linter.unusedSimpArgs false
set_option linter.unusedVariables false

set_option maxRecDepth 100000 in
theorem sameV_yes (k : Int) (b : Bool) (n : Int) (s : ByteArray) (w : World) :
    Calls Tryz.prog 32 #[.agg #[.int .i64 k, .bool b, .int .i64 n, .string s, .slice none 0 0], .agg #[.int .i64 k, .bool b, .int .i64 n, .string s, .slice none 0 0]] w fun e w' => e = .returned (.bool true) ∧ Below w.heap.size w w' := by
  have hb : Below w.heap.size w ((w.alloc (.cells #[.int .i64 k, .bool b, .int .i64 n, .string s, .slice none 0 0] 37)).alloc (.cells #[.int .i64 k, .bool b, .int .i64 n, .string s, .slice none 0 0] 37)) := by go_grown
  have B1 := (Blk.new w [.int .i64 k, .bool b, .int .i64 n, .string s, .slice none 0 0] 37).grown (below_new _ (.cells #[.int .i64 k, .bool b, .int .i64 n, .string s, .slice none 0 0] 37))
  have B2 := Blk.new (w.alloc (.cells #[.int .i64 k, .bool b, .int .i64 n, .string s, .slice none 0 0] 37)) [.int .i64 k, .bool b, .int .i64 n, .string s, .slice none 0 0] 37
  have e1 : (w.alloc (.cells #[.int .i64 k, .bool b, .int .i64 n, .string s, .slice none 0 0] 37)).heap.size = w.heap.size + 1 := by simp
  rw [e1] at B2
  go_enter Tryz.func32, Tryz.ntmps32
  go_wp2_with fail
  have i0 : ((w.alloc (.cells #[.int .i64 k, .bool b, .int .i64 n, .string s, .slice none 0 0] 37)).alloc (.cells #[.int .i64 k, .bool b, .int .i64 n, .string s, .slice none 0 0] 37)).cell? ⟨w.heap.size, 0, none⟩ = some (.int .i64 k) := B1.c 0 (by simp)
  have i1 : ((w.alloc (.cells #[.int .i64 k, .bool b, .int .i64 n, .string s, .slice none 0 0] 37)).alloc (.cells #[.int .i64 k, .bool b, .int .i64 n, .string s, .slice none 0 0] 37)).cell? ⟨w.heap.size, 1, none⟩ = some (.bool b) := B1.c 1 (by simp)
  have i2 : ((w.alloc (.cells #[.int .i64 k, .bool b, .int .i64 n, .string s, .slice none 0 0] 37)).alloc (.cells #[.int .i64 k, .bool b, .int .i64 n, .string s, .slice none 0 0] 37)).cell? ⟨w.heap.size, 2, none⟩ = some (.int .i64 n) := B1.c 2 (by simp)
  have i3 : ((w.alloc (.cells #[.int .i64 k, .bool b, .int .i64 n, .string s, .slice none 0 0] 37)).alloc (.cells #[.int .i64 k, .bool b, .int .i64 n, .string s, .slice none 0 0] 37)).cell? ⟨w.heap.size, 3, none⟩ = some (.string s) := B1.c 3 (by simp)
  have i4 : ((w.alloc (.cells #[.int .i64 k, .bool b, .int .i64 n, .string s, .slice none 0 0] 37)).alloc (.cells #[.int .i64 k, .bool b, .int .i64 n, .string s, .slice none 0 0] 37)).cell? ⟨w.heap.size, 4, none⟩ = some (.slice none 0 0) := B1.c 4 (by simp)
  have j0 : ((w.alloc (.cells #[.int .i64 k, .bool b, .int .i64 n, .string s, .slice none 0 0] 37)).alloc (.cells #[.int .i64 k, .bool b, .int .i64 n, .string s, .slice none 0 0] 37)).cell? ⟨w.heap.size + 1, 0, none⟩ = some (.int .i64 k) := B2.c 0 (by simp)
  have j1 : ((w.alloc (.cells #[.int .i64 k, .bool b, .int .i64 n, .string s, .slice none 0 0] 37)).alloc (.cells #[.int .i64 k, .bool b, .int .i64 n, .string s, .slice none 0 0] 37)).cell? ⟨w.heap.size + 1, 1, none⟩ = some (.bool b) := B2.c 1 (by simp)
  have j2 : ((w.alloc (.cells #[.int .i64 k, .bool b, .int .i64 n, .string s, .slice none 0 0] 37)).alloc (.cells #[.int .i64 k, .bool b, .int .i64 n, .string s, .slice none 0 0] 37)).cell? ⟨w.heap.size + 1, 2, none⟩ = some (.int .i64 n) := B2.c 2 (by simp)
  have j3 : ((w.alloc (.cells #[.int .i64 k, .bool b, .int .i64 n, .string s, .slice none 0 0] 37)).alloc (.cells #[.int .i64 k, .bool b, .int .i64 n, .string s, .slice none 0 0] 37)).cell? ⟨w.heap.size + 1, 3, none⟩ = some (.string s) := B2.c 3 (by simp)
  have j4 : ((w.alloc (.cells #[.int .i64 k, .bool b, .int .i64 n, .string s, .slice none 0 0] 37)).alloc (.cells #[.int .i64 k, .bool b, .int .i64 n, .string s, .slice none 0 0] 37)).cell? ⟨w.heap.size + 1, 4, none⟩ = some (.slice none 0 0) := B2.c 4 (by simp)
  clear B1 B2
  generalize (w.alloc (.cells #[.int .i64 k, .bool b, .int .i64 n, .string s, .slice none 0 0] 37)).alloc (.cells #[.int .i64 k, .bool b, .int .i64 n, .string s, .slice none 0 0] 37) = W at *
  go_loopw [5] (fun i wr => i = .int .i64 0 ∧ wr = W) (fun i _ => 0)
  case atStart => exact ⟨rfl, rfl⟩
  case round =>
    obtain ⟨rfl, rfl⟩ := hrel
    go_wp2_with fail
    go_returns
    exact ⟨by simp, hb⟩
set_option maxRecDepth 100000 in
set_option maxHeartbeats 4000000 in
theorem sameE0 (O : Int) (M P : ByteArray) (K : Int) (B : Bool) (I : Int) (T : ByteArray) (w : World) :
    Calls Tryz.prog 15 #[.agg #[.int .i64 O, .slice none 0 0, .string M, .string P, .int .i64 K, .bool B, .int .i64 I, .string T, .slice none 0 0], .agg #[.int .i64 O, .slice none 0 0, .string M, .string P, .int .i64 K, .bool B, .int .i64 I, .string T, .slice none 0 0]] w fun e w' => e = .returned (.bool true) ∧ Below w.heap.size w w' := by
  have hb : Below w.heap.size w ((w.alloc (.cells #[.int .i64 O, .slice none 0 0, .string M, .string P, .int .i64 K, .bool B, .int .i64 I, .string T, .slice none 0 0] 39)).alloc (.cells #[.int .i64 O, .slice none 0 0, .string M, .string P, .int .i64 K, .bool B, .int .i64 I, .string T, .slice none 0 0] 39)) := by go_grown
  have B1 := (Blk.new w [.int .i64 O, .slice none 0 0, .string M, .string P, .int .i64 K, .bool B, .int .i64 I, .string T, .slice none 0 0] 39).grown (below_new _ (.cells #[.int .i64 O, .slice none 0 0, .string M, .string P, .int .i64 K, .bool B, .int .i64 I, .string T, .slice none 0 0] 39))
  have B2 := Blk.new (w.alloc (.cells #[.int .i64 O, .slice none 0 0, .string M, .string P, .int .i64 K, .bool B, .int .i64 I, .string T, .slice none 0 0] 39)) [.int .i64 O, .slice none 0 0, .string M, .string P, .int .i64 K, .bool B, .int .i64 I, .string T, .slice none 0 0] 39
  have e1 : (w.alloc (.cells #[.int .i64 O, .slice none 0 0, .string M, .string P, .int .i64 K, .bool B, .int .i64 I, .string T, .slice none 0 0] 39)).heap.size = w.heap.size + 1 := by simp
  rw [e1] at B2
  have hv := fun w => sameV_yes K B I T w
  replace hv : Hid _ := hv
  go_enter Tryz.func15, Tryz.ntmps15
  go_upto_region 1 with fail
  have hW : ∃ W, W = (w.alloc (.cells #[.int .i64 O, .slice none 0 0, .string M, .string P, .int .i64 K, .bool B, .int .i64 I, .string T, .slice none 0 0] 39)).alloc (.cells #[.int .i64 O, .slice none 0 0, .string M, .string P, .int .i64 K, .bool B, .int .i64 I, .string T, .slice none 0 0] 39) := ⟨_, rfl⟩
  obtain ⟨W, hW⟩ := hW
  rw [← hW] at hb B1 B2 ⊢
  have i0 : W.cell? ⟨w.heap.size, 0, none⟩ = some (.int .i64 O) := B1.c 0 (by simp)
  have i1 : W.cell? ⟨w.heap.size, 1, none⟩ = some (.slice none 0 0) := B1.c 1 (by simp)
  have i2 : W.cell? ⟨w.heap.size, 2, none⟩ = some (.string M) := B1.c 2 (by simp)
  have i3 : W.cell? ⟨w.heap.size, 3, none⟩ = some (.string P) := B1.c 3 (by simp)
  have i4 : W.cell? ⟨w.heap.size, 4, none⟩ = some (.int .i64 K) := B1.c 4 (by simp)
  have i5 : W.cell? ⟨w.heap.size, 5, none⟩ = some (.bool B) := B1.c 5 (by simp)
  have i6 : W.cell? ⟨w.heap.size, 6, none⟩ = some (.int .i64 I) := B1.c 6 (by simp)
  have i7 : W.cell? ⟨w.heap.size, 7, none⟩ = some (.string T) := B1.c 7 (by simp)
  have i8 : W.cell? ⟨w.heap.size, 8, none⟩ = some (.slice none 0 0) := B1.c 8 (by simp)
  have j0 : W.cell? ⟨w.heap.size + 1, 0, none⟩ = some (.int .i64 O) := B2.c 0 (by simp)
  have j1 : W.cell? ⟨w.heap.size + 1, 1, none⟩ = some (.slice none 0 0) := B2.c 1 (by simp)
  have j2 : W.cell? ⟨w.heap.size + 1, 2, none⟩ = some (.string M) := B2.c 2 (by simp)
  have j3 : W.cell? ⟨w.heap.size + 1, 3, none⟩ = some (.string P) := B2.c 3 (by simp)
  have j4 : W.cell? ⟨w.heap.size + 1, 4, none⟩ = some (.int .i64 K) := B2.c 4 (by simp)
  have j5 : W.cell? ⟨w.heap.size + 1, 5, none⟩ = some (.bool B) := B2.c 5 (by simp)
  have j6 : W.cell? ⟨w.heap.size + 1, 6, none⟩ = some (.int .i64 I) := B2.c 6 (by simp)
  have j7 : W.cell? ⟨w.heap.size + 1, 7, none⟩ = some (.string T) := B2.c 7 (by simp)
  have j8 : W.cell? ⟨w.heap.size + 1, 8, none⟩ = some (.slice none 0 0) := B2.c 8 (by simp)
  clear hW
  go_upto_region 2 with ((with_reducible refine Calls.mono (hv.out _) ?_); rintro e w2 ⟨rfl, hb2⟩)
  have hb3 := below_on hb hb2
  have C1 := B1.grown hb2
  have C2 := B2.grown hb2
  clear i0 j0 i1 j1 i2 j2 i3 j3 i4 j4 i5 j5 i6 j6 i7 j7 i8 j8
  have i0 : w2.cell? ⟨w.heap.size, 0, none⟩ = some (.int .i64 O) := C1.c 0 (by simp)
  have i1 : w2.cell? ⟨w.heap.size, 1, none⟩ = some (.slice none 0 0) := C1.c 1 (by simp)
  have i2 : w2.cell? ⟨w.heap.size, 2, none⟩ = some (.string M) := C1.c 2 (by simp)
  have i3 : w2.cell? ⟨w.heap.size, 3, none⟩ = some (.string P) := C1.c 3 (by simp)
  have i4 : w2.cell? ⟨w.heap.size, 4, none⟩ = some (.int .i64 K) := C1.c 4 (by simp)
  have i5 : w2.cell? ⟨w.heap.size, 5, none⟩ = some (.bool B) := C1.c 5 (by simp)
  have i6 : w2.cell? ⟨w.heap.size, 6, none⟩ = some (.int .i64 I) := C1.c 6 (by simp)
  have i7 : w2.cell? ⟨w.heap.size, 7, none⟩ = some (.string T) := C1.c 7 (by simp)
  have i8 : w2.cell? ⟨w.heap.size, 8, none⟩ = some (.slice none 0 0) := C1.c 8 (by simp)
  have j0 : w2.cell? ⟨w.heap.size + 1, 0, none⟩ = some (.int .i64 O) := C2.c 0 (by simp)
  have j1 : w2.cell? ⟨w.heap.size + 1, 1, none⟩ = some (.slice none 0 0) := C2.c 1 (by simp)
  have j2 : w2.cell? ⟨w.heap.size + 1, 2, none⟩ = some (.string M) := C2.c 2 (by simp)
  have j3 : w2.cell? ⟨w.heap.size + 1, 3, none⟩ = some (.string P) := C2.c 3 (by simp)
  have j4 : w2.cell? ⟨w.heap.size + 1, 4, none⟩ = some (.int .i64 K) := C2.c 4 (by simp)
  have j5 : w2.cell? ⟨w.heap.size + 1, 5, none⟩ = some (.bool B) := C2.c 5 (by simp)
  have j6 : w2.cell? ⟨w.heap.size + 1, 6, none⟩ = some (.int .i64 I) := C2.c 6 (by simp)
  have j7 : w2.cell? ⟨w.heap.size + 1, 7, none⟩ = some (.string T) := C2.c 7 (by simp)
  have j8 : w2.cell? ⟨w.heap.size + 1, 8, none⟩ = some (.slice none 0 0) := C2.c 8 (by simp)
  clear B1 B2 hb2 hb hv
  go_wp2_with fail
  go_loopw [6] (fun i wr => i = .int .i64 0 ∧ wr = w2) (fun i _ => 0)
  case atStart => exact ⟨rfl, rfl⟩
  case round =>
    obtain ⟨rfl, rfl⟩ := hrel
    go_wp2_with fail
    go_returns
    exact ⟨by simp, hb3⟩
set_option maxRecDepth 100000 in
set_option maxHeartbeats 4000000 in
theorem sameE1 (O : Int) (M P : ByteArray) (K : Int) (B : Bool) (I : Int) (T : ByteArray) (g1 g2 : Nat) (w : World)
    (O0 : Int) (M0 P0 : ByteArray) (K0 : Int) (B0 : Bool) (I0 : Int) (T0 : ByteArray) (pa0 pb0 : Option Addr) (na0 nb0 ca0 cb0 : Nat)
    (x00 : w.cell? ⟨g1, 0, none⟩ = some (.int .i64 O0))
    (x01 : w.cell? ⟨g1, 1, none⟩ = some (.slice pa0 na0 ca0))
    (x02 : w.cell? ⟨g1, 2, none⟩ = some (.string M0))
    (x03 : w.cell? ⟨g1, 3, none⟩ = some (.string P0))
    (x04 : w.cell? ⟨g1, 4, none⟩ = some (.int .i64 K0))
    (x05 : w.cell? ⟨g1, 5, none⟩ = some (.bool B0))
    (x06 : w.cell? ⟨g1, 6, none⟩ = some (.int .i64 I0))
    (x07 : w.cell? ⟨g1, 7, none⟩ = some (.string T0))
    (x08 : w.cell? ⟨g1, 8, none⟩ = some (.slice none 0 0))
    (y00 : w.cell? ⟨g2, 0, none⟩ = some (.int .i64 O0))
    (y01 : w.cell? ⟨g2, 1, none⟩ = some (.slice pb0 nb0 cb0))
    (y02 : w.cell? ⟨g2, 2, none⟩ = some (.string M0))
    (y03 : w.cell? ⟨g2, 3, none⟩ = some (.string P0))
    (y04 : w.cell? ⟨g2, 4, none⟩ = some (.int .i64 K0))
    (y05 : w.cell? ⟨g2, 5, none⟩ = some (.bool B0))
    (y06 : w.cell? ⟨g2, 6, none⟩ = some (.int .i64 I0))
    (y07 : w.cell? ⟨g2, 7, none⟩ = some (.string T0))
    (y08 : w.cell? ⟨g2, 8, none⟩ = some (.slice none 0 0))
    (hk0 : ∀ w', Below w.heap.size w w' → Calls Tryz.prog 15 #[.agg #[.int .i64 O0, .slice pa0 na0 ca0, .string M0, .string P0, .int .i64 K0, .bool B0, .int .i64 I0, .string T0, .slice none 0 0], .agg #[.int .i64 O0, .slice pb0 nb0 cb0, .string M0, .string P0, .int .i64 K0, .bool B0, .int .i64 I0, .string T0, .slice none 0 0]] w' fun e w'' => e = .returned (.bool true) ∧ Below w'.heap.size w' w'') :
    Calls Tryz.prog 15 #[.agg #[.int .i64 O, .slice (some ⟨g1, 0, none⟩) 1 1, .string M, .string P, .int .i64 K, .bool B, .int .i64 I, .string T, .slice none 0 0], .agg #[.int .i64 O, .slice (some ⟨g2, 0, none⟩) 1 1, .string M, .string P, .int .i64 K, .bool B, .int .i64 I, .string T, .slice none 0 0]] w fun e w' => e = .returned (.bool true) ∧ Below w.heap.size w w' := by
  have hb : Below w.heap.size w ((w.alloc (.cells #[.int .i64 O, .slice (some ⟨g1, 0, none⟩) 1 1, .string M, .string P, .int .i64 K, .bool B, .int .i64 I, .string T, .slice none 0 0] 39)).alloc (.cells #[.int .i64 O, .slice (some ⟨g2, 0, none⟩) 1 1, .string M, .string P, .int .i64 K, .bool B, .int .i64 I, .string T, .slice none 0 0] 39)) := by go_grown
  have B1 := (Blk.new w [.int .i64 O, .slice (some ⟨g1, 0, none⟩) 1 1, .string M, .string P, .int .i64 K, .bool B, .int .i64 I, .string T, .slice none 0 0] 39).grown (below_new _ (.cells #[.int .i64 O, .slice (some ⟨g2, 0, none⟩) 1 1, .string M, .string P, .int .i64 K, .bool B, .int .i64 I, .string T, .slice none 0 0] 39))
  have B2 := Blk.new (w.alloc (.cells #[.int .i64 O, .slice (some ⟨g1, 0, none⟩) 1 1, .string M, .string P, .int .i64 K, .bool B, .int .i64 I, .string T, .slice none 0 0] 39)) [.int .i64 O, .slice (some ⟨g2, 0, none⟩) 1 1, .string M, .string P, .int .i64 K, .bool B, .int .i64 I, .string T, .slice none 0 0] 39
  have e1 : (w.alloc (.cells #[.int .i64 O, .slice (some ⟨g1, 0, none⟩) 1 1, .string M, .string P, .int .i64 K, .bool B, .int .i64 I, .string T, .slice none 0 0] 39)).heap.size = w.heap.size + 1 := by simp
  rw [e1] at B2
  have hv := fun w => sameV_yes K B I T w
  replace hv : Hid _ := hv
  go_enter Tryz.func15, Tryz.ntmps15
  go_upto_region 1 with fail
  have hW : ∃ W, W = (w.alloc (.cells #[.int .i64 O, .slice (some ⟨g1, 0, none⟩) 1 1, .string M, .string P, .int .i64 K, .bool B, .int .i64 I, .string T, .slice none 0 0] 39)).alloc (.cells #[.int .i64 O, .slice (some ⟨g2, 0, none⟩) 1 1, .string M, .string P, .int .i64 K, .bool B, .int .i64 I, .string T, .slice none 0 0] 39) := ⟨_, rfl⟩
  obtain ⟨W, hW⟩ := hW
  rw [← hW] at hb B1 B2 ⊢
  have i0 : W.cell? ⟨w.heap.size, 0, none⟩ = some (.int .i64 O) := B1.c 0 (by simp)
  have i1 : W.cell? ⟨w.heap.size, 1, none⟩ = some (.slice (some ⟨g1, 0, none⟩) 1 1) := B1.c 1 (by simp)
  have i2 : W.cell? ⟨w.heap.size, 2, none⟩ = some (.string M) := B1.c 2 (by simp)
  have i3 : W.cell? ⟨w.heap.size, 3, none⟩ = some (.string P) := B1.c 3 (by simp)
  have i4 : W.cell? ⟨w.heap.size, 4, none⟩ = some (.int .i64 K) := B1.c 4 (by simp)
  have i5 : W.cell? ⟨w.heap.size, 5, none⟩ = some (.bool B) := B1.c 5 (by simp)
  have i6 : W.cell? ⟨w.heap.size, 6, none⟩ = some (.int .i64 I) := B1.c 6 (by simp)
  have i7 : W.cell? ⟨w.heap.size, 7, none⟩ = some (.string T) := B1.c 7 (by simp)
  have i8 : W.cell? ⟨w.heap.size, 8, none⟩ = some (.slice none 0 0) := B1.c 8 (by simp)
  have j0 : W.cell? ⟨w.heap.size + 1, 0, none⟩ = some (.int .i64 O) := B2.c 0 (by simp)
  have j1 : W.cell? ⟨w.heap.size + 1, 1, none⟩ = some (.slice (some ⟨g2, 0, none⟩) 1 1) := B2.c 1 (by simp)
  have j2 : W.cell? ⟨w.heap.size + 1, 2, none⟩ = some (.string M) := B2.c 2 (by simp)
  have j3 : W.cell? ⟨w.heap.size + 1, 3, none⟩ = some (.string P) := B2.c 3 (by simp)
  have j4 : W.cell? ⟨w.heap.size + 1, 4, none⟩ = some (.int .i64 K) := B2.c 4 (by simp)
  have j5 : W.cell? ⟨w.heap.size + 1, 5, none⟩ = some (.bool B) := B2.c 5 (by simp)
  have j6 : W.cell? ⟨w.heap.size + 1, 6, none⟩ = some (.int .i64 I) := B2.c 6 (by simp)
  have j7 : W.cell? ⟨w.heap.size + 1, 7, none⟩ = some (.string T) := B2.c 7 (by simp)
  have j8 : W.cell? ⟨w.heap.size + 1, 8, none⟩ = some (.slice none 0 0) := B2.c 8 (by simp)
  clear hW
  go_upto_region 2 with ((with_reducible refine Calls.mono (hv.out _) ?_); rintro e w2 ⟨rfl, hb2⟩)
  have hb3 := below_on hb hb2
  have C1 := B1.grown hb2
  have C2 := B2.grown hb2
  clear i0 j0 i1 j1 i2 j2 i3 j3 i4 j4 i5 j5 i6 j6 i7 j7 i8 j8
  have i0 : w2.cell? ⟨w.heap.size, 0, none⟩ = some (.int .i64 O) := C1.c 0 (by simp)
  have i1 : w2.cell? ⟨w.heap.size, 1, none⟩ = some (.slice (some ⟨g1, 0, none⟩) 1 1) := C1.c 1 (by simp)
  have i2 : w2.cell? ⟨w.heap.size, 2, none⟩ = some (.string M) := C1.c 2 (by simp)
  have i3 : w2.cell? ⟨w.heap.size, 3, none⟩ = some (.string P) := C1.c 3 (by simp)
  have i4 : w2.cell? ⟨w.heap.size, 4, none⟩ = some (.int .i64 K) := C1.c 4 (by simp)
  have i5 : w2.cell? ⟨w.heap.size, 5, none⟩ = some (.bool B) := C1.c 5 (by simp)
  have i6 : w2.cell? ⟨w.heap.size, 6, none⟩ = some (.int .i64 I) := C1.c 6 (by simp)
  have i7 : w2.cell? ⟨w.heap.size, 7, none⟩ = some (.string T) := C1.c 7 (by simp)
  have i8 : w2.cell? ⟨w.heap.size, 8, none⟩ = some (.slice none 0 0) := C1.c 8 (by simp)
  have j0 : w2.cell? ⟨w.heap.size + 1, 0, none⟩ = some (.int .i64 O) := C2.c 0 (by simp)
  have j1 : w2.cell? ⟨w.heap.size + 1, 1, none⟩ = some (.slice (some ⟨g2, 0, none⟩) 1 1) := C2.c 1 (by simp)
  have j2 : w2.cell? ⟨w.heap.size + 1, 2, none⟩ = some (.string M) := C2.c 2 (by simp)
  have j3 : w2.cell? ⟨w.heap.size + 1, 3, none⟩ = some (.string P) := C2.c 3 (by simp)
  have j4 : w2.cell? ⟨w.heap.size + 1, 4, none⟩ = some (.int .i64 K) := C2.c 4 (by simp)
  have j5 : w2.cell? ⟨w.heap.size + 1, 5, none⟩ = some (.bool B) := C2.c 5 (by simp)
  have j6 : w2.cell? ⟨w.heap.size + 1, 6, none⟩ = some (.int .i64 I) := C2.c 6 (by simp)
  have j7 : w2.cell? ⟨w.heap.size + 1, 7, none⟩ = some (.string T) := C2.c 7 (by simp)
  have j8 : w2.cell? ⟨w.heap.size + 1, 8, none⟩ = some (.slice none 0 0) := C2.c 8 (by simp)
  clear B1 B2 hb2 hb hv
  go_wp2_with fail
  clear C1 C2
  go_loopw [6] (fun i wr => (i = .int .i64 0 ∨ i = .int .i64 1) ∧ Below w2.heap.size w2 wr) (fun i _ => 1 - (intOf i).toNat)
  case atStart => exact ⟨.inl rfl, Below.refl _ _⟩
  case round =>
    obtain ⟨hi, hbx⟩ := hrel
    have hbw := below_on hb3 hbx
    have lx : w.heap.size < w2.heap.size := World.block_lt_of_cell? w2 _ i1
    have ly : w.heap.size + 1 < w2.heap.size := World.block_lt_of_cell? w2 _ j1
    replace i1 := (hbx.cell (p := ⟨w.heap.size, 1, none⟩) lx).trans i1
    replace j1 := (hbx.cell (p := ⟨w.heap.size + 1, 1, none⟩) ly).trans j1
    clear i0 i2 i3 i4 i5 i6 i7 i8 j0 j2 j3 j4 j5 j6 j7 j8
    rcases hi with rfl | rfl
    · have cS : ∀ d os, Calls Tryz.prog 15 #[.agg #[.int .i64 O0, .slice pa0 na0 ca0, .string M0, .string P0, .int .i64 K0, .bool B0, .int .i64 I0, .string T0, .slice none 0 0], .agg #[.int .i64 O0, .slice pb0 nb0 cb0, .string M0, .string P0, .int .i64 K0, .bool B0, .int .i64 I0, .string T0, .slice none 0 0]] (grow (redrawn wr d) os) fun e w'' => e = .returned (.bool true) ∧ ∃ p : Regrown, w'' = grow (redrawn wr p.d) p.os := fun d os => Calls.regrown_of (hk0 _ (below_on hbw (below_regrown wr d os)))
      have xf0 := cell_regrown ((hbw.cell (p := ⟨g1, 0, none⟩) (World.block_lt_of_cell? w _ x00)).trans x00)
      have xf1 := cell_regrown ((hbw.cell (p := ⟨g1, 1, none⟩) (World.block_lt_of_cell? w _ x01)).trans x01)
      have xf2 := cell_regrown ((hbw.cell (p := ⟨g1, 2, none⟩) (World.block_lt_of_cell? w _ x02)).trans x02)
      have xf3 := cell_regrown ((hbw.cell (p := ⟨g1, 3, none⟩) (World.block_lt_of_cell? w _ x03)).trans x03)
      have xf4 := cell_regrown ((hbw.cell (p := ⟨g1, 4, none⟩) (World.block_lt_of_cell? w _ x04)).trans x04)
      have xf5 := cell_regrown ((hbw.cell (p := ⟨g1, 5, none⟩) (World.block_lt_of_cell? w _ x05)).trans x05)
      have xf6 := cell_regrown ((hbw.cell (p := ⟨g1, 6, none⟩) (World.block_lt_of_cell? w _ x06)).trans x06)
      have xf7 := cell_regrown ((hbw.cell (p := ⟨g1, 7, none⟩) (World.block_lt_of_cell? w _ x07)).trans x07)
      have xf8 := cell_regrown ((hbw.cell (p := ⟨g1, 8, none⟩) (World.block_lt_of_cell? w _ x08)).trans x08)
      have yf0 := cell_regrown ((hbw.cell (p := ⟨g2, 0, none⟩) (World.block_lt_of_cell? w _ y00)).trans y00)
      have yf1 := cell_regrown ((hbw.cell (p := ⟨g2, 1, none⟩) (World.block_lt_of_cell? w _ y01)).trans y01)
      have yf2 := cell_regrown ((hbw.cell (p := ⟨g2, 2, none⟩) (World.block_lt_of_cell? w _ y02)).trans y02)
      have yf3 := cell_regrown ((hbw.cell (p := ⟨g2, 3, none⟩) (World.block_lt_of_cell? w _ y03)).trans y03)
      have yf4 := cell_regrown ((hbw.cell (p := ⟨g2, 4, none⟩) (World.block_lt_of_cell? w _ y04)).trans y04)
      have yf5 := cell_regrown ((hbw.cell (p := ⟨g2, 5, none⟩) (World.block_lt_of_cell? w _ y05)).trans y05)
      have yf6 := cell_regrown ((hbw.cell (p := ⟨g2, 6, none⟩) (World.block_lt_of_cell? w _ y06)).trans y06)
      have yf7 := cell_regrown ((hbw.cell (p := ⟨g2, 7, none⟩) (World.block_lt_of_cell? w _ y07)).trans y07)
      have yf8 := cell_regrown ((hbw.cell (p := ⟨g2, 8, none⟩) (World.block_lt_of_cell? w _ y08)).trans y08)
      have fi := cell_regrown i1
      have fj := cell_regrown j1
      replace cS : Hid _ := cS
      go_wp2_with fail
      refine wp_region_quiet_below (by kernel_rfl) (by kernel_rfl) ?_
      repeat (first | go_big_quiet_step (with_reducible exact cS.out _ _) | quiet_step (with_reducible exact cS.out _ _))
      refine wpQuiet_nil ?_
      intro _ hw'
      obtain ⟨⟨dq, osq⟩, hw''⟩ := hw'
      subst hw''
      have hb5 := below_on hbx (below_regrown wr dq osq)
      clear fi fj cS xf0 yf0 xf1 yf1 xf2 yf2 xf3 yf3 xf4 yf4 xf5 yf5 xf6 yf6 xf7 yf7 xf8 yf8
      generalize grow (redrawn wr dq) osq = w3 at hb5 ⊢
      go_wp2_with fail
      exact ⟨⟨by simp, hb5⟩, by decide⟩
    · go_wp2_with fail
      go_returns
      exact ⟨by simp, hbw⟩
set_option maxRecDepth 100000 in
set_option maxHeartbeats 4000000 in
theorem sameE2 (O : Int) (M P : ByteArray) (K : Int) (B : Bool) (I : Int) (T : ByteArray) (g1 g2 : Nat) (w : World)
    (O0 : Int) (M0 P0 : ByteArray) (K0 : Int) (B0 : Bool) (I0 : Int) (T0 : ByteArray) (pa0 pb0 : Option Addr) (na0 nb0 ca0 cb0 : Nat)
    (x00 : w.cell? ⟨g1, 0, none⟩ = some (.int .i64 O0))
    (x01 : w.cell? ⟨g1, 1, none⟩ = some (.slice pa0 na0 ca0))
    (x02 : w.cell? ⟨g1, 2, none⟩ = some (.string M0))
    (x03 : w.cell? ⟨g1, 3, none⟩ = some (.string P0))
    (x04 : w.cell? ⟨g1, 4, none⟩ = some (.int .i64 K0))
    (x05 : w.cell? ⟨g1, 5, none⟩ = some (.bool B0))
    (x06 : w.cell? ⟨g1, 6, none⟩ = some (.int .i64 I0))
    (x07 : w.cell? ⟨g1, 7, none⟩ = some (.string T0))
    (x08 : w.cell? ⟨g1, 8, none⟩ = some (.slice none 0 0))
    (y00 : w.cell? ⟨g2, 0, none⟩ = some (.int .i64 O0))
    (y01 : w.cell? ⟨g2, 1, none⟩ = some (.slice pb0 nb0 cb0))
    (y02 : w.cell? ⟨g2, 2, none⟩ = some (.string M0))
    (y03 : w.cell? ⟨g2, 3, none⟩ = some (.string P0))
    (y04 : w.cell? ⟨g2, 4, none⟩ = some (.int .i64 K0))
    (y05 : w.cell? ⟨g2, 5, none⟩ = some (.bool B0))
    (y06 : w.cell? ⟨g2, 6, none⟩ = some (.int .i64 I0))
    (y07 : w.cell? ⟨g2, 7, none⟩ = some (.string T0))
    (y08 : w.cell? ⟨g2, 8, none⟩ = some (.slice none 0 0))
    (hk0 : ∀ w', Below w.heap.size w w' → Calls Tryz.prog 15 #[.agg #[.int .i64 O0, .slice pa0 na0 ca0, .string M0, .string P0, .int .i64 K0, .bool B0, .int .i64 I0, .string T0, .slice none 0 0], .agg #[.int .i64 O0, .slice pb0 nb0 cb0, .string M0, .string P0, .int .i64 K0, .bool B0, .int .i64 I0, .string T0, .slice none 0 0]] w' fun e w'' => e = .returned (.bool true) ∧ Below w'.heap.size w' w'')
    (O1 : Int) (M1 P1 : ByteArray) (K1 : Int) (B1 : Bool) (I1 : Int) (T1 : ByteArray) (pa1 pb1 : Option Addr) (na1 nb1 ca1 cb1 : Nat)
    (x10 : w.cell? ⟨g1, 9, none⟩ = some (.int .i64 O1))
    (x11 : w.cell? ⟨g1, 10, none⟩ = some (.slice pa1 na1 ca1))
    (x12 : w.cell? ⟨g1, 11, none⟩ = some (.string M1))
    (x13 : w.cell? ⟨g1, 12, none⟩ = some (.string P1))
    (x14 : w.cell? ⟨g1, 13, none⟩ = some (.int .i64 K1))
    (x15 : w.cell? ⟨g1, 14, none⟩ = some (.bool B1))
    (x16 : w.cell? ⟨g1, 15, none⟩ = some (.int .i64 I1))
    (x17 : w.cell? ⟨g1, 16, none⟩ = some (.string T1))
    (x18 : w.cell? ⟨g1, 17, none⟩ = some (.slice none 0 0))
    (y10 : w.cell? ⟨g2, 9, none⟩ = some (.int .i64 O1))
    (y11 : w.cell? ⟨g2, 10, none⟩ = some (.slice pb1 nb1 cb1))
    (y12 : w.cell? ⟨g2, 11, none⟩ = some (.string M1))
    (y13 : w.cell? ⟨g2, 12, none⟩ = some (.string P1))
    (y14 : w.cell? ⟨g2, 13, none⟩ = some (.int .i64 K1))
    (y15 : w.cell? ⟨g2, 14, none⟩ = some (.bool B1))
    (y16 : w.cell? ⟨g2, 15, none⟩ = some (.int .i64 I1))
    (y17 : w.cell? ⟨g2, 16, none⟩ = some (.string T1))
    (y18 : w.cell? ⟨g2, 17, none⟩ = some (.slice none 0 0))
    (hk1 : ∀ w', Below w.heap.size w w' → Calls Tryz.prog 15 #[.agg #[.int .i64 O1, .slice pa1 na1 ca1, .string M1, .string P1, .int .i64 K1, .bool B1, .int .i64 I1, .string T1, .slice none 0 0], .agg #[.int .i64 O1, .slice pb1 nb1 cb1, .string M1, .string P1, .int .i64 K1, .bool B1, .int .i64 I1, .string T1, .slice none 0 0]] w' fun e w'' => e = .returned (.bool true) ∧ Below w'.heap.size w' w'') :
    Calls Tryz.prog 15 #[.agg #[.int .i64 O, .slice (some ⟨g1, 0, none⟩) 2 2, .string M, .string P, .int .i64 K, .bool B, .int .i64 I, .string T, .slice none 0 0], .agg #[.int .i64 O, .slice (some ⟨g2, 0, none⟩) 2 2, .string M, .string P, .int .i64 K, .bool B, .int .i64 I, .string T, .slice none 0 0]] w fun e w' => e = .returned (.bool true) ∧ Below w.heap.size w w' := by
  have hb : Below w.heap.size w ((w.alloc (.cells #[.int .i64 O, .slice (some ⟨g1, 0, none⟩) 2 2, .string M, .string P, .int .i64 K, .bool B, .int .i64 I, .string T, .slice none 0 0] 39)).alloc (.cells #[.int .i64 O, .slice (some ⟨g2, 0, none⟩) 2 2, .string M, .string P, .int .i64 K, .bool B, .int .i64 I, .string T, .slice none 0 0] 39)) := by go_grown
  have B1 := (Blk.new w [.int .i64 O, .slice (some ⟨g1, 0, none⟩) 2 2, .string M, .string P, .int .i64 K, .bool B, .int .i64 I, .string T, .slice none 0 0] 39).grown (below_new _ (.cells #[.int .i64 O, .slice (some ⟨g2, 0, none⟩) 2 2, .string M, .string P, .int .i64 K, .bool B, .int .i64 I, .string T, .slice none 0 0] 39))
  have B2 := Blk.new (w.alloc (.cells #[.int .i64 O, .slice (some ⟨g1, 0, none⟩) 2 2, .string M, .string P, .int .i64 K, .bool B, .int .i64 I, .string T, .slice none 0 0] 39)) [.int .i64 O, .slice (some ⟨g2, 0, none⟩) 2 2, .string M, .string P, .int .i64 K, .bool B, .int .i64 I, .string T, .slice none 0 0] 39
  have e1 : (w.alloc (.cells #[.int .i64 O, .slice (some ⟨g1, 0, none⟩) 2 2, .string M, .string P, .int .i64 K, .bool B, .int .i64 I, .string T, .slice none 0 0] 39)).heap.size = w.heap.size + 1 := by simp
  rw [e1] at B2
  have hv := fun w => sameV_yes K B I T w
  replace hv : Hid _ := hv
  go_enter Tryz.func15, Tryz.ntmps15
  go_upto_region 1 with fail
  have hW : ∃ W, W = (w.alloc (.cells #[.int .i64 O, .slice (some ⟨g1, 0, none⟩) 2 2, .string M, .string P, .int .i64 K, .bool B, .int .i64 I, .string T, .slice none 0 0] 39)).alloc (.cells #[.int .i64 O, .slice (some ⟨g2, 0, none⟩) 2 2, .string M, .string P, .int .i64 K, .bool B, .int .i64 I, .string T, .slice none 0 0] 39) := ⟨_, rfl⟩
  obtain ⟨W, hW⟩ := hW
  rw [← hW] at hb B1 B2 ⊢
  have i0 : W.cell? ⟨w.heap.size, 0, none⟩ = some (.int .i64 O) := B1.c 0 (by simp)
  have i1 : W.cell? ⟨w.heap.size, 1, none⟩ = some (.slice (some ⟨g1, 0, none⟩) 2 2) := B1.c 1 (by simp)
  have i2 : W.cell? ⟨w.heap.size, 2, none⟩ = some (.string M) := B1.c 2 (by simp)
  have i3 : W.cell? ⟨w.heap.size, 3, none⟩ = some (.string P) := B1.c 3 (by simp)
  have i4 : W.cell? ⟨w.heap.size, 4, none⟩ = some (.int .i64 K) := B1.c 4 (by simp)
  have i5 : W.cell? ⟨w.heap.size, 5, none⟩ = some (.bool B) := B1.c 5 (by simp)
  have i6 : W.cell? ⟨w.heap.size, 6, none⟩ = some (.int .i64 I) := B1.c 6 (by simp)
  have i7 : W.cell? ⟨w.heap.size, 7, none⟩ = some (.string T) := B1.c 7 (by simp)
  have i8 : W.cell? ⟨w.heap.size, 8, none⟩ = some (.slice none 0 0) := B1.c 8 (by simp)
  have j0 : W.cell? ⟨w.heap.size + 1, 0, none⟩ = some (.int .i64 O) := B2.c 0 (by simp)
  have j1 : W.cell? ⟨w.heap.size + 1, 1, none⟩ = some (.slice (some ⟨g2, 0, none⟩) 2 2) := B2.c 1 (by simp)
  have j2 : W.cell? ⟨w.heap.size + 1, 2, none⟩ = some (.string M) := B2.c 2 (by simp)
  have j3 : W.cell? ⟨w.heap.size + 1, 3, none⟩ = some (.string P) := B2.c 3 (by simp)
  have j4 : W.cell? ⟨w.heap.size + 1, 4, none⟩ = some (.int .i64 K) := B2.c 4 (by simp)
  have j5 : W.cell? ⟨w.heap.size + 1, 5, none⟩ = some (.bool B) := B2.c 5 (by simp)
  have j6 : W.cell? ⟨w.heap.size + 1, 6, none⟩ = some (.int .i64 I) := B2.c 6 (by simp)
  have j7 : W.cell? ⟨w.heap.size + 1, 7, none⟩ = some (.string T) := B2.c 7 (by simp)
  have j8 : W.cell? ⟨w.heap.size + 1, 8, none⟩ = some (.slice none 0 0) := B2.c 8 (by simp)
  clear hW
  go_upto_region 2 with ((with_reducible refine Calls.mono (hv.out _) ?_); rintro e w2 ⟨rfl, hb2⟩)
  have hb3 := below_on hb hb2
  have C1 := B1.grown hb2
  have C2 := B2.grown hb2
  clear i0 j0 i1 j1 i2 j2 i3 j3 i4 j4 i5 j5 i6 j6 i7 j7 i8 j8
  have i0 : w2.cell? ⟨w.heap.size, 0, none⟩ = some (.int .i64 O) := C1.c 0 (by simp)
  have i1 : w2.cell? ⟨w.heap.size, 1, none⟩ = some (.slice (some ⟨g1, 0, none⟩) 2 2) := C1.c 1 (by simp)
  have i2 : w2.cell? ⟨w.heap.size, 2, none⟩ = some (.string M) := C1.c 2 (by simp)
  have i3 : w2.cell? ⟨w.heap.size, 3, none⟩ = some (.string P) := C1.c 3 (by simp)
  have i4 : w2.cell? ⟨w.heap.size, 4, none⟩ = some (.int .i64 K) := C1.c 4 (by simp)
  have i5 : w2.cell? ⟨w.heap.size, 5, none⟩ = some (.bool B) := C1.c 5 (by simp)
  have i6 : w2.cell? ⟨w.heap.size, 6, none⟩ = some (.int .i64 I) := C1.c 6 (by simp)
  have i7 : w2.cell? ⟨w.heap.size, 7, none⟩ = some (.string T) := C1.c 7 (by simp)
  have i8 : w2.cell? ⟨w.heap.size, 8, none⟩ = some (.slice none 0 0) := C1.c 8 (by simp)
  have j0 : w2.cell? ⟨w.heap.size + 1, 0, none⟩ = some (.int .i64 O) := C2.c 0 (by simp)
  have j1 : w2.cell? ⟨w.heap.size + 1, 1, none⟩ = some (.slice (some ⟨g2, 0, none⟩) 2 2) := C2.c 1 (by simp)
  have j2 : w2.cell? ⟨w.heap.size + 1, 2, none⟩ = some (.string M) := C2.c 2 (by simp)
  have j3 : w2.cell? ⟨w.heap.size + 1, 3, none⟩ = some (.string P) := C2.c 3 (by simp)
  have j4 : w2.cell? ⟨w.heap.size + 1, 4, none⟩ = some (.int .i64 K) := C2.c 4 (by simp)
  have j5 : w2.cell? ⟨w.heap.size + 1, 5, none⟩ = some (.bool B) := C2.c 5 (by simp)
  have j6 : w2.cell? ⟨w.heap.size + 1, 6, none⟩ = some (.int .i64 I) := C2.c 6 (by simp)
  have j7 : w2.cell? ⟨w.heap.size + 1, 7, none⟩ = some (.string T) := C2.c 7 (by simp)
  have j8 : w2.cell? ⟨w.heap.size + 1, 8, none⟩ = some (.slice none 0 0) := C2.c 8 (by simp)
  clear B1 B2 hb2 hb hv
  go_wp2_with fail
  clear C1 C2
  go_loopw [6] (fun i wr => (i = .int .i64 0 ∨ i = .int .i64 1 ∨ i = .int .i64 2) ∧ Below w2.heap.size w2 wr) (fun i _ => 2 - (intOf i).toNat)
  case atStart => exact ⟨.inl rfl, Below.refl _ _⟩
  case round =>
    obtain ⟨hi, hbx⟩ := hrel
    have hbw := below_on hb3 hbx
    have lx : w.heap.size < w2.heap.size := World.block_lt_of_cell? w2 _ i1
    have ly : w.heap.size + 1 < w2.heap.size := World.block_lt_of_cell? w2 _ j1
    replace i1 := (hbx.cell (p := ⟨w.heap.size, 1, none⟩) lx).trans i1
    replace j1 := (hbx.cell (p := ⟨w.heap.size + 1, 1, none⟩) ly).trans j1
    clear i0 i2 i3 i4 i5 i6 i7 i8 j0 j2 j3 j4 j5 j6 j7 j8
    rcases hi with rfl | rfl | rfl
    · have cS : ∀ d os, Calls Tryz.prog 15 #[.agg #[.int .i64 O0, .slice pa0 na0 ca0, .string M0, .string P0, .int .i64 K0, .bool B0, .int .i64 I0, .string T0, .slice none 0 0], .agg #[.int .i64 O0, .slice pb0 nb0 cb0, .string M0, .string P0, .int .i64 K0, .bool B0, .int .i64 I0, .string T0, .slice none 0 0]] (grow (redrawn wr d) os) fun e w'' => e = .returned (.bool true) ∧ ∃ p : Regrown, w'' = grow (redrawn wr p.d) p.os := fun d os => Calls.regrown_of (hk0 _ (below_on hbw (below_regrown wr d os)))
      have xf0 := cell_regrown ((hbw.cell (p := ⟨g1, 0, none⟩) (World.block_lt_of_cell? w _ x00)).trans x00)
      have xf1 := cell_regrown ((hbw.cell (p := ⟨g1, 1, none⟩) (World.block_lt_of_cell? w _ x01)).trans x01)
      have xf2 := cell_regrown ((hbw.cell (p := ⟨g1, 2, none⟩) (World.block_lt_of_cell? w _ x02)).trans x02)
      have xf3 := cell_regrown ((hbw.cell (p := ⟨g1, 3, none⟩) (World.block_lt_of_cell? w _ x03)).trans x03)
      have xf4 := cell_regrown ((hbw.cell (p := ⟨g1, 4, none⟩) (World.block_lt_of_cell? w _ x04)).trans x04)
      have xf5 := cell_regrown ((hbw.cell (p := ⟨g1, 5, none⟩) (World.block_lt_of_cell? w _ x05)).trans x05)
      have xf6 := cell_regrown ((hbw.cell (p := ⟨g1, 6, none⟩) (World.block_lt_of_cell? w _ x06)).trans x06)
      have xf7 := cell_regrown ((hbw.cell (p := ⟨g1, 7, none⟩) (World.block_lt_of_cell? w _ x07)).trans x07)
      have xf8 := cell_regrown ((hbw.cell (p := ⟨g1, 8, none⟩) (World.block_lt_of_cell? w _ x08)).trans x08)
      have yf0 := cell_regrown ((hbw.cell (p := ⟨g2, 0, none⟩) (World.block_lt_of_cell? w _ y00)).trans y00)
      have yf1 := cell_regrown ((hbw.cell (p := ⟨g2, 1, none⟩) (World.block_lt_of_cell? w _ y01)).trans y01)
      have yf2 := cell_regrown ((hbw.cell (p := ⟨g2, 2, none⟩) (World.block_lt_of_cell? w _ y02)).trans y02)
      have yf3 := cell_regrown ((hbw.cell (p := ⟨g2, 3, none⟩) (World.block_lt_of_cell? w _ y03)).trans y03)
      have yf4 := cell_regrown ((hbw.cell (p := ⟨g2, 4, none⟩) (World.block_lt_of_cell? w _ y04)).trans y04)
      have yf5 := cell_regrown ((hbw.cell (p := ⟨g2, 5, none⟩) (World.block_lt_of_cell? w _ y05)).trans y05)
      have yf6 := cell_regrown ((hbw.cell (p := ⟨g2, 6, none⟩) (World.block_lt_of_cell? w _ y06)).trans y06)
      have yf7 := cell_regrown ((hbw.cell (p := ⟨g2, 7, none⟩) (World.block_lt_of_cell? w _ y07)).trans y07)
      have yf8 := cell_regrown ((hbw.cell (p := ⟨g2, 8, none⟩) (World.block_lt_of_cell? w _ y08)).trans y08)
      have fi := cell_regrown i1
      have fj := cell_regrown j1
      replace cS : Hid _ := cS
      go_wp2_with fail
      refine wp_region_quiet_below (by kernel_rfl) (by kernel_rfl) ?_
      repeat (first | go_big_quiet_step (with_reducible exact cS.out _ _) | quiet_step (with_reducible exact cS.out _ _))
      refine wpQuiet_nil ?_
      intro _ hw'
      obtain ⟨⟨dq, osq⟩, hw''⟩ := hw'
      subst hw''
      have hb5 := below_on hbx (below_regrown wr dq osq)
      clear fi fj cS xf0 yf0 xf1 yf1 xf2 yf2 xf3 yf3 xf4 yf4 xf5 yf5 xf6 yf6 xf7 yf7 xf8 yf8
      generalize grow (redrawn wr dq) osq = w3 at hb5 ⊢
      go_wp2_with fail
      exact ⟨⟨by simp, hb5⟩, by decide⟩
    · have cS : ∀ d os, Calls Tryz.prog 15 #[.agg #[.int .i64 O1, .slice pa1 na1 ca1, .string M1, .string P1, .int .i64 K1, .bool B1, .int .i64 I1, .string T1, .slice none 0 0], .agg #[.int .i64 O1, .slice pb1 nb1 cb1, .string M1, .string P1, .int .i64 K1, .bool B1, .int .i64 I1, .string T1, .slice none 0 0]] (grow (redrawn wr d) os) fun e w'' => e = .returned (.bool true) ∧ ∃ p : Regrown, w'' = grow (redrawn wr p.d) p.os := fun d os => Calls.regrown_of (hk1 _ (below_on hbw (below_regrown wr d os)))
      have xf0 := cell_regrown ((hbw.cell (p := ⟨g1, 9, none⟩) (World.block_lt_of_cell? w _ x10)).trans x10)
      have xf1 := cell_regrown ((hbw.cell (p := ⟨g1, 10, none⟩) (World.block_lt_of_cell? w _ x11)).trans x11)
      have xf2 := cell_regrown ((hbw.cell (p := ⟨g1, 11, none⟩) (World.block_lt_of_cell? w _ x12)).trans x12)
      have xf3 := cell_regrown ((hbw.cell (p := ⟨g1, 12, none⟩) (World.block_lt_of_cell? w _ x13)).trans x13)
      have xf4 := cell_regrown ((hbw.cell (p := ⟨g1, 13, none⟩) (World.block_lt_of_cell? w _ x14)).trans x14)
      have xf5 := cell_regrown ((hbw.cell (p := ⟨g1, 14, none⟩) (World.block_lt_of_cell? w _ x15)).trans x15)
      have xf6 := cell_regrown ((hbw.cell (p := ⟨g1, 15, none⟩) (World.block_lt_of_cell? w _ x16)).trans x16)
      have xf7 := cell_regrown ((hbw.cell (p := ⟨g1, 16, none⟩) (World.block_lt_of_cell? w _ x17)).trans x17)
      have xf8 := cell_regrown ((hbw.cell (p := ⟨g1, 17, none⟩) (World.block_lt_of_cell? w _ x18)).trans x18)
      have yf0 := cell_regrown ((hbw.cell (p := ⟨g2, 9, none⟩) (World.block_lt_of_cell? w _ y10)).trans y10)
      have yf1 := cell_regrown ((hbw.cell (p := ⟨g2, 10, none⟩) (World.block_lt_of_cell? w _ y11)).trans y11)
      have yf2 := cell_regrown ((hbw.cell (p := ⟨g2, 11, none⟩) (World.block_lt_of_cell? w _ y12)).trans y12)
      have yf3 := cell_regrown ((hbw.cell (p := ⟨g2, 12, none⟩) (World.block_lt_of_cell? w _ y13)).trans y13)
      have yf4 := cell_regrown ((hbw.cell (p := ⟨g2, 13, none⟩) (World.block_lt_of_cell? w _ y14)).trans y14)
      have yf5 := cell_regrown ((hbw.cell (p := ⟨g2, 14, none⟩) (World.block_lt_of_cell? w _ y15)).trans y15)
      have yf6 := cell_regrown ((hbw.cell (p := ⟨g2, 15, none⟩) (World.block_lt_of_cell? w _ y16)).trans y16)
      have yf7 := cell_regrown ((hbw.cell (p := ⟨g2, 16, none⟩) (World.block_lt_of_cell? w _ y17)).trans y17)
      have yf8 := cell_regrown ((hbw.cell (p := ⟨g2, 17, none⟩) (World.block_lt_of_cell? w _ y18)).trans y18)
      have fi := cell_regrown i1
      have fj := cell_regrown j1
      replace cS : Hid _ := cS
      go_wp2_with fail
      refine wp_region_quiet_below (by kernel_rfl) (by kernel_rfl) ?_
      repeat (first | go_big_quiet_step (with_reducible exact cS.out _ _) | quiet_step (with_reducible exact cS.out _ _))
      refine wpQuiet_nil ?_
      intro _ hw'
      obtain ⟨⟨dq, osq⟩, hw''⟩ := hw'
      subst hw''
      have hb5 := below_on hbx (below_regrown wr dq osq)
      clear fi fj cS xf0 yf0 xf1 yf1 xf2 yf2 xf3 yf3 xf4 yf4 xf5 yf5 xf6 yf6 xf7 yf7 xf8 yf8
      generalize grow (redrawn wr dq) osq = w3 at hb5 ⊢
      go_wp2_with fail
      exact ⟨⟨by simp, hb5⟩, by decide⟩
    · go_wp2_with fail
      go_returns
      exact ⟨by simp, hbw⟩
end Go.Proofs.YtkcnpbckmdgfnaaGreatDoor
namespace Go.Proofs.YtkcnpbckmdgfnaaGreatDoor
open Go.ChangeShapes Go.WideShapes Go.ChangeAt Go.RowKit
set_option linter.unusedSimpArgs false
set_option linter.unusedVariables false

/-- Expressions of the same content are the same. -/
theorem sameE_yes : ∀ (x : Ex) (p q : Option Addr) (n m c d : Nat) (S S' : Nat → Prop) (w : World), ExAt w S x (.slice p n c) → ExAt w S' x (.slice q m d) →
    Calls Tryz.prog 15 #[.agg #[.int .i64 (opE x), .slice p n c, .string (txt (nmE x)), .string (txt (prE x)), .int .i64 (kE x), .bool (bE x), .int .i64 (nE x), .string (txt (tE x)), .slice none 0 0], .agg #[.int .i64 (opE x), .slice q m d, .string (txt (nmE x)), .string (txt (prE x)), .int .i64 (kE x), .bool (bE x), .int .i64 (nE x), .string (txt (tE x)), .slice none 0 0]] w fun e w' => e = .returned (.bool true) ∧ Below w.heap.size w w'
  | .leaf o nm pr k b nn t, p, q, n, m, c, d, S, S', w, h1, h2 => by
    cases h1
    cases h2
    exact sameE0 _ _ _ _ _ _ _ w
  | .one o y, p, q, n, m, c, d, S, S', w, ⟨g, k1, e, _, r1, h1⟩, ⟨g', k2, e', _, r2, h2⟩ => by
    cases e
    cases e'
    obtain ⟨pa, na, ca, rfl⟩ := h1.slice
    obtain ⟨pb, nb, cb, rfl⟩ := h2.slice
    obtain ⟨a0, a1, a2, a3, a4, a5, a6, a7, a8⟩ := r1
    obtain ⟨b0, b1, b2, b3, b4, b5, b6, b7, b8⟩ := r2
    exact sameE1 _ _ _ _ _ _ _ g g' w _ _ _ _ _ _ _ pa pb na nb ca cb a0 a1 a2 a3 a4 a5 a6 a7 a8 b0 b1 b2 b3 b4 b5 b6 b7 b8 (fun w' hb => sameE_yes y _ _ _ _ _ _ S S' w' (h1.keep hb) (h2.keep hb))
  | .two o y z, p, q, n, m, c, d, S, S', w, ⟨g, k1, l1, e, _, r1, s1, h1, i1⟩, ⟨g', k2, l2, e', _, r2, s2, h2, i2⟩ => by
    cases e
    cases e'
    obtain ⟨pa, na, ca, rfl⟩ := h1.slice
    obtain ⟨pb, nb, cb, rfl⟩ := h2.slice
    obtain ⟨pa', na', ca', rfl⟩ := i1.slice
    obtain ⟨pb', nb', cb', rfl⟩ := i2.slice
    obtain ⟨a0, a1, a2, a3, a4, a5, a6, a7, a8⟩ := r1
    obtain ⟨b0, b1, b2, b3, b4, b5, b6, b7, b8⟩ := r2
    obtain ⟨x0, x1, x2, x3, x4, x5, x6, x7, x8⟩ := s1
    obtain ⟨y0, y1, y2, y3, y4, y5, y6, y7, y8⟩ := s2
    exact sameE2 _ _ _ _ _ _ _ g g' w _ _ _ _ _ _ _ pa pb na nb ca cb a0 a1 a2 a3 a4 a5 a6 a7 a8 b0 b1 b2 b3 b4 b5 b6 b7 b8 (fun w' hb => sameE_yes y _ _ _ _ _ _ S S' w' (h1.keep hb) (h2.keep hb))
      _ _ _ _ _ _ _ pa' pb' na' nb' ca' cb' x0 x1 x2 x3 x4 x5 x6 x7 x8 y0 y1 y2 y3 y4 y5 y6 y7 y8 (fun w' hb => sameE_yes z _ _ _ _ _ _ S S' w' (i1.keep hb) (i2.keep hb))
end Go.Proofs.YtkcnpbckmdgfnaaGreatDoor
