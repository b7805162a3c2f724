/-
  SameExpr: a leaf, and one of the same content whose path is empty, are told to be the same.
-/
import Derived.Test.YtkcnpbckmdgfnaaGreatDoorSae
namespace Go.Proofs.YtkcnpbckmdgfnaaGreatDoor
open Go.ChangeShapes Go.WideShapes Go.ChangeAt Go.RowKit Go.Sort
set_option linter.unusedSimpArgs false
set_option linter.unusedVariables false

set_option maxRecDepth 100000 in
theorem sameV_leaf (k : Int) (b : Bool) (n : Int) (s : ByteArray) (p : Option Addr) (c : Nat) (w : World) :
    Calls Tryz.prog 32 #[.agg #[.int .i64 k, .bool b, .int .i64 n, .string s, .slice none 0 0], .agg #[.int .i64 k, .bool b, .int .i64 n, .string s, .slice p 0 c]] w fun e w' => e = .returned (.bool true) ∧ Below w.heap.size w w' := by
  have hb : Below w.heap.size w ((w.alloc (.cells #[.int .i64 k, .bool b, .int .i64 n, .string s, .slice none 0 0] 37)).alloc (.cells #[.int .i64 k, .bool b, .int .i64 n, .string s, .slice p 0 c] 37)) := by go_grown
  have B1 := (Blk.new w [.int .i64 k, .bool b, .int .i64 n, .string s, .slice none 0 0] 37).grown (below_new _ (.cells #[.int .i64 k, .bool b, .int .i64 n, .string s, .slice p 0 c] 37))
  have B2 := Blk.new (w.alloc (.cells #[.int .i64 k, .bool b, .int .i64 n, .string s, .slice none 0 0] 37)) [.int .i64 k, .bool b, .int .i64 n, .string s, .slice p 0 c] 37
  have e1 : (w.alloc (.cells #[.int .i64 k, .bool b, .int .i64 n, .string s, .slice none 0 0] 37)).heap.size = w.heap.size + 1 := by simp
  rw [e1] at B2
  go_enter Tryz.func32, Tryz.ntmps32
  go_wp2_with fail
  have i0 : ((w.alloc (.cells #[.int .i64 k, .bool b, .int .i64 n, .string s, .slice none 0 0] 37)).alloc (.cells #[.int .i64 k, .bool b, .int .i64 n, .string s, .slice p 0 c] 37)).cell? ⟨w.heap.size, 0, none⟩ = some (.int .i64 k) := B1.c 0 (by simp)
  have i1 : ((w.alloc (.cells #[.int .i64 k, .bool b, .int .i64 n, .string s, .slice none 0 0] 37)).alloc (.cells #[.int .i64 k, .bool b, .int .i64 n, .string s, .slice p 0 c] 37)).cell? ⟨w.heap.size, 1, none⟩ = some (.bool b) := B1.c 1 (by simp)
  have i2 : ((w.alloc (.cells #[.int .i64 k, .bool b, .int .i64 n, .string s, .slice none 0 0] 37)).alloc (.cells #[.int .i64 k, .bool b, .int .i64 n, .string s, .slice p 0 c] 37)).cell? ⟨w.heap.size, 2, none⟩ = some (.int .i64 n) := B1.c 2 (by simp)
  have i3 : ((w.alloc (.cells #[.int .i64 k, .bool b, .int .i64 n, .string s, .slice none 0 0] 37)).alloc (.cells #[.int .i64 k, .bool b, .int .i64 n, .string s, .slice p 0 c] 37)).cell? ⟨w.heap.size, 3, none⟩ = some (.string s) := B1.c 3 (by simp)
  have i4 : ((w.alloc (.cells #[.int .i64 k, .bool b, .int .i64 n, .string s, .slice none 0 0] 37)).alloc (.cells #[.int .i64 k, .bool b, .int .i64 n, .string s, .slice p 0 c] 37)).cell? ⟨w.heap.size, 4, none⟩ = some (.slice none 0 0) := B1.c 4 (by simp)
  have j0 : ((w.alloc (.cells #[.int .i64 k, .bool b, .int .i64 n, .string s, .slice none 0 0] 37)).alloc (.cells #[.int .i64 k, .bool b, .int .i64 n, .string s, .slice p 0 c] 37)).cell? ⟨w.heap.size + 1, 0, none⟩ = some (.int .i64 k) := B2.c 0 (by simp)
  have j1 : ((w.alloc (.cells #[.int .i64 k, .bool b, .int .i64 n, .string s, .slice none 0 0] 37)).alloc (.cells #[.int .i64 k, .bool b, .int .i64 n, .string s, .slice p 0 c] 37)).cell? ⟨w.heap.size + 1, 1, none⟩ = some (.bool b) := B2.c 1 (by simp)
  have j2 : ((w.alloc (.cells #[.int .i64 k, .bool b, .int .i64 n, .string s, .slice none 0 0] 37)).alloc (.cells #[.int .i64 k, .bool b, .int .i64 n, .string s, .slice p 0 c] 37)).cell? ⟨w.heap.size + 1, 2, none⟩ = some (.int .i64 n) := B2.c 2 (by simp)
  have j3 : ((w.alloc (.cells #[.int .i64 k, .bool b, .int .i64 n, .string s, .slice none 0 0] 37)).alloc (.cells #[.int .i64 k, .bool b, .int .i64 n, .string s, .slice p 0 c] 37)).cell? ⟨w.heap.size + 1, 3, none⟩ = some (.string s) := B2.c 3 (by simp)
  have j4 : ((w.alloc (.cells #[.int .i64 k, .bool b, .int .i64 n, .string s, .slice none 0 0] 37)).alloc (.cells #[.int .i64 k, .bool b, .int .i64 n, .string s, .slice p 0 c] 37)).cell? ⟨w.heap.size + 1, 4, none⟩ = some (.slice p 0 c) := B2.c 4 (by simp)
  clear B1 B2
  generalize (w.alloc (.cells #[.int .i64 k, .bool b, .int .i64 n, .string s, .slice none 0 0] 37)).alloc (.cells #[.int .i64 k, .bool b, .int .i64 n, .string s, .slice p 0 c] 37) = W at *
  go_loopw [5] (fun i wr => i = .int .i64 0 ∧ wr = W) (fun i _ => 0)
  case atStart => exact ⟨rfl, rfl⟩
  case round =>
    obtain ⟨rfl, rfl⟩ := hrel
    go_wp2_with fail
    go_returns
    exact ⟨by simp, hb⟩
set_option maxRecDepth 100000 in
set_option maxHeartbeats 4000000 in
theorem sameE_leaf (O : Int) (M P : ByteArray) (K : Int) (B : Bool) (I : Int) (T : ByteArray) (p : Option Addr) (c : Nat) (w : World) :
    Calls Tryz.prog 15 #[.agg #[.int .i64 O, .slice none 0 0, .string M, .string P, .int .i64 K, .bool B, .int .i64 I, .string T, .slice none 0 0], .agg #[.int .i64 O, .slice none 0 0, .string M, .string P, .int .i64 K, .bool B, .int .i64 I, .string T, .slice p 0 c]] w fun e w' => e = .returned (.bool true) ∧ Below w.heap.size w w' := by
  have hb : Below w.heap.size w ((w.alloc (.cells #[.int .i64 O, .slice none 0 0, .string M, .string P, .int .i64 K, .bool B, .int .i64 I, .string T, .slice none 0 0] 39)).alloc (.cells #[.int .i64 O, .slice none 0 0, .string M, .string P, .int .i64 K, .bool B, .int .i64 I, .string T, .slice p 0 c] 39)) := by go_grown
  have B1 := (Blk.new w [.int .i64 O, .slice none 0 0, .string M, .string P, .int .i64 K, .bool B, .int .i64 I, .string T, .slice none 0 0] 39).grown (below_new _ (.cells #[.int .i64 O, .slice none 0 0, .string M, .string P, .int .i64 K, .bool B, .int .i64 I, .string T, .slice p 0 c] 39))
  have B2 := Blk.new (w.alloc (.cells #[.int .i64 O, .slice none 0 0, .string M, .string P, .int .i64 K, .bool B, .int .i64 I, .string T, .slice none 0 0] 39)) [.int .i64 O, .slice none 0 0, .string M, .string P, .int .i64 K, .bool B, .int .i64 I, .string T, .slice p 0 c] 39
  have e1 : (w.alloc (.cells #[.int .i64 O, .slice none 0 0, .string M, .string P, .int .i64 K, .bool B, .int .i64 I, .string T, .slice none 0 0] 39)).heap.size = w.heap.size + 1 := by simp
  rw [e1] at B2
  have hv := fun w => sameV_leaf K B I T p c w
  replace hv : Hid _ := hv
  go_enter Tryz.func15, Tryz.ntmps15
  go_upto_region 1 with fail
  have hW : ∃ W, W = (w.alloc (.cells #[.int .i64 O, .slice none 0 0, .string M, .string P, .int .i64 K, .bool B, .int .i64 I, .string T, .slice none 0 0] 39)).alloc (.cells #[.int .i64 O, .slice none 0 0, .string M, .string P, .int .i64 K, .bool B, .int .i64 I, .string T, .slice p 0 c] 39) := ⟨_, rfl⟩
  obtain ⟨W, hW⟩ := hW
  rw [← hW] at hb B1 B2 ⊢
  have i0 : W.cell? ⟨w.heap.size, 0, none⟩ = some (.int .i64 O) := B1.c 0 (by simp)
  have i1 : W.cell? ⟨w.heap.size, 1, none⟩ = some (.slice none 0 0) := B1.c 1 (by simp)
  have i2 : W.cell? ⟨w.heap.size, 2, none⟩ = some (.string M) := B1.c 2 (by simp)
  have i3 : W.cell? ⟨w.heap.size, 3, none⟩ = some (.string P) := B1.c 3 (by simp)
  have i4 : W.cell? ⟨w.heap.size, 4, none⟩ = some (.int .i64 K) := B1.c 4 (by simp)
  have i5 : W.cell? ⟨w.heap.size, 5, none⟩ = some (.bool B) := B1.c 5 (by simp)
  have i6 : W.cell? ⟨w.heap.size, 6, none⟩ = some (.int .i64 I) := B1.c 6 (by simp)
  have i7 : W.cell? ⟨w.heap.size, 7, none⟩ = some (.string T) := B1.c 7 (by simp)
  have i8 : W.cell? ⟨w.heap.size, 8, none⟩ = some (.slice none 0 0) := B1.c 8 (by simp)
  have j0 : W.cell? ⟨w.heap.size + 1, 0, none⟩ = some (.int .i64 O) := B2.c 0 (by simp)
  have j1 : W.cell? ⟨w.heap.size + 1, 1, none⟩ = some (.slice none 0 0) := B2.c 1 (by simp)
  have j2 : W.cell? ⟨w.heap.size + 1, 2, none⟩ = some (.string M) := B2.c 2 (by simp)
  have j3 : W.cell? ⟨w.heap.size + 1, 3, none⟩ = some (.string P) := B2.c 3 (by simp)
  have j4 : W.cell? ⟨w.heap.size + 1, 4, none⟩ = some (.int .i64 K) := B2.c 4 (by simp)
  have j5 : W.cell? ⟨w.heap.size + 1, 5, none⟩ = some (.bool B) := B2.c 5 (by simp)
  have j6 : W.cell? ⟨w.heap.size + 1, 6, none⟩ = some (.int .i64 I) := B2.c 6 (by simp)
  have j7 : W.cell? ⟨w.heap.size + 1, 7, none⟩ = some (.string T) := B2.c 7 (by simp)
  have j8 : W.cell? ⟨w.heap.size + 1, 8, none⟩ = some (.slice p 0 c) := B2.c 8 (by simp)
  clear hW
  go_upto_region 2 with ((with_reducible refine Calls.mono (hv.out _) ?_); rintro e w2 ⟨rfl, hb2⟩)
  have hb3 := below_on hb hb2
  have C1 := B1.grown hb2
  have C2 := B2.grown hb2
  clear i0 j0 i1 j1 i2 j2 i3 j3 i4 j4 i5 j5 i6 j6 i7 j7 i8 j8
  have i0 : w2.cell? ⟨w.heap.size, 0, none⟩ = some (.int .i64 O) := C1.c 0 (by simp)
  have i1 : w2.cell? ⟨w.heap.size, 1, none⟩ = some (.slice none 0 0) := C1.c 1 (by simp)
  have i2 : w2.cell? ⟨w.heap.size, 2, none⟩ = some (.string M) := C1.c 2 (by simp)
  have i3 : w2.cell? ⟨w.heap.size, 3, none⟩ = some (.string P) := C1.c 3 (by simp)
  have i4 : w2.cell? ⟨w.heap.size, 4, none⟩ = some (.int .i64 K) := C1.c 4 (by simp)
  have i5 : w2.cell? ⟨w.heap.size, 5, none⟩ = some (.bool B) := C1.c 5 (by simp)
  have i6 : w2.cell? ⟨w.heap.size, 6, none⟩ = some (.int .i64 I) := C1.c 6 (by simp)
  have i7 : w2.cell? ⟨w.heap.size, 7, none⟩ = some (.string T) := C1.c 7 (by simp)
  have i8 : w2.cell? ⟨w.heap.size, 8, none⟩ = some (.slice none 0 0) := C1.c 8 (by simp)
  have j0 : w2.cell? ⟨w.heap.size + 1, 0, none⟩ = some (.int .i64 O) := C2.c 0 (by simp)
  have j1 : w2.cell? ⟨w.heap.size + 1, 1, none⟩ = some (.slice none 0 0) := C2.c 1 (by simp)
  have j2 : w2.cell? ⟨w.heap.size + 1, 2, none⟩ = some (.string M) := C2.c 2 (by simp)
  have j3 : w2.cell? ⟨w.heap.size + 1, 3, none⟩ = some (.string P) := C2.c 3 (by simp)
  have j4 : w2.cell? ⟨w.heap.size + 1, 4, none⟩ = some (.int .i64 K) := C2.c 4 (by simp)
  have j5 : w2.cell? ⟨w.heap.size + 1, 5, none⟩ = some (.bool B) := C2.c 5 (by simp)
  have j6 : w2.cell? ⟨w.heap.size + 1, 6, none⟩ = some (.int .i64 I) := C2.c 6 (by simp)
  have j7 : w2.cell? ⟨w.heap.size + 1, 7, none⟩ = some (.string T) := C2.c 7 (by simp)
  have j8 : w2.cell? ⟨w.heap.size + 1, 8, none⟩ = some (.slice p 0 c) := C2.c 8 (by simp)
  clear B1 B2 hb2 hb hv
  go_wp2_with fail
  go_loopw [6] (fun i wr => i = .int .i64 0 ∧ wr = w2) (fun i _ => 0)
  case atStart => exact ⟨rfl, rfl⟩
  case round =>
    obtain ⟨rfl, rfl⟩ := hrel
    go_wp2_with fail
    go_returns
    exact ⟨by simp, hb3⟩
end Go.Proofs.YtkcnpbckmdgfnaaGreatDoor
