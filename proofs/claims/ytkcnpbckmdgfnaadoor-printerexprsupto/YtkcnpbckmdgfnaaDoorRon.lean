/-
  Ron: turned for the seat of the expressions.
-/
import Derived.Test.YtkcnpbckmdgfnaaDoorRtw
namespace Go.Proofs.YtkcnpbckmdgfnaaDoor
open Go.ChangeShapes Go.WideShapes Go.ChangeAt Go.RowKit
set_option linter.unusedSimpArgs false
set_option linter.unusedVariables false
set_option maxRecDepth 100000 in
set_option maxHeartbeats 2000000 in
theorem rexpr_not {o1 o2 : Bool} {XA : List UInt8} {B b : Nat} {T : List UInt8} {dp : Int} (nm pr : List UInt8) (k : Int) (bb : Bool) (n : Int) (t : List UInt8) (kp : Option Addr) (kn kc : Nat) (pa : Option Addr) (pl pc : Nat) (w : World)
    (hS : St B b T true [] dp w w) (hf : ∀ w1, Below w.heap.size w w1 → Calls Tryd.prog 18 #[.agg #[.int .i64 17, .slice kp kn kc, .string (txt nm), .string (txt pr), .int .i64 k, .bool bb, .int .i64 n, .string (txt t), .slice pa pl pc]] w1 fun e w' => e = .returned (.bool true) ∧ Below w1.heap.size w1 w') (h0 : 0 ≤ dp) (h1 : dp ≤ 1000)
    (hD : ∀ w2, St B b T true [] dp w w2 → Calls Tryd.prog 24 #[.pointer (some ⟨b, 0, none⟩)] w2 fun e w' => e = .returned (.tuple #[]) ∧ Kps B b w2 w' ∧ St B b T o1 [] (dp + 1) w w')
    (hA : ∀ w2, St B b T o1 [78, 79, 84, 32] (dp + 1) w w2 → Calls Tryd.prog 22 #[.pointer (some ⟨b, 0, none⟩), .agg #[.int .i64 17, .slice kp kn kc, .string (txt nm), .string (txt pr), .int .i64 k, .bool bb, .int .i64 n, .string (txt t), .slice pa pl pc], .int .i64 0] w2 fun e w' => e = .returned (.tuple #[]) ∧ Kps B b w2 w' ∧ St B b T o2 XA (dp + 1) w w') :
    Calls Tryd.prog 9 #[.pointer (some ⟨b, 0, none⟩), .agg #[.int .i64 17, .slice kp kn kc, .string (txt nm), .string (txt pr), .int .i64 k, .bool bb, .int .i64 n, .string (txt t), .slice pa pl pc]] w fun e w' => e = .returned (.tuple #[]) ∧ St B b T o2 XA dp w w' := by
  have hC := fun (w2 : World) (h : St B b T o1 [] (dp + 1) w w2) => h.says [78, 79, 84, 32] (by decide)
  rw [show txt [78, 79, 84, 32] = ⟨#[78, 79, 84, 32]⟩ from rfl] at hC
  have hb9 : dp + 1 - 1 = dp := by omega
  replace hD : Hid _ := hD
  replace hA : Hid _ := hA
  replace hC : Hid _ := hC
  have hb0 := below_new w (.cells #[.int .i64 17, .slice kp kn kc, .string (txt nm), .string (txt pr), .int .i64 k, .bool bb, .int .i64 n, .string (txt t), .slice pa pl pc] 29)
  have hf0 := hf _ hb0
  have hlt : Hid _ := hS.ltb
  have hsz : Hid _ := hS.siz
  replace hb0 : Hid _ := hb0
  replace hf0 : Hid _ := hf0
  replace hS : Hid (St B b T true [] dp w w) := hS
  clear hf
  go_enter Tryd.func9, Tryd.ntmps9
  go_wp2_with fail
  go_at_call 18
  refine Calls.mono hf0.out ?_
  rintro e w1 ⟨rfl, hb1⟩
  have hb2 := below_on hb0.out hb1
  have hS1 := hS.out.below hb2
  have g1 : w1.cell? ⟨b, 2, none⟩ = some (.bool false) := hS1.bad_cell.1
  have hbk1 := (hb1.block w.heap.size (by simp)).trans (heap_alloc_new w (.cells #[.int .i64 17, .slice kp kn kc, .string (txt nm), .string (txt pr), .int .i64 k, .bool bb, .int .i64 n, .string (txt t), .slice pa pl pc] 29))
  have x0 := box_cell hbk1 0
  have x1 := box_cell hbk1 1
  have x2 := box_cell hbk1 2
  have x3 := box_cell hbk1 3
  have x4 := box_cell hbk1 4
  have x5 := box_cell hbk1 5
  have x6 := box_cell hbk1 6
  have x7 := box_cell hbk1 7
  have x8 := box_cell hbk1 8
  simp only [List.getElem?_toArray, List.getElem?_cons_zero, List.getElem?_cons_succ] at x0 x1 x2 x3 x4 x5 x6 x7 x8
  replace hbk1 : Hid _ := hbk1
  replace hb2 : Hid (Below w.heap.size w w1) := hb2
  replace hS1 : Hid (St B b T true [] dp w w1) := hS1
  have hK1 : Hid (Kps B b w w1) := Kps.of hb2.out hsz.out
  go_wp2_with fail
  go_at_call 24
  refine Calls.mono (hD.out w1 hS1.out) ?_
  rintro e w2 ⟨rfl, hK, hS2⟩
  have hbk2 := hK.box hbk1.out (by decide) (by have := hlt.out; omega)
  have y0 := box_cell hbk2 0
  have y1 := box_cell hbk2 1
  have y2 := box_cell hbk2 2
  have y3 := box_cell hbk2 3
  have y4 := box_cell hbk2 4
  have y5 := box_cell hbk2 5
  have y6 := box_cell hbk2 6
  have y7 := box_cell hbk2 7
  have y8 := box_cell hbk2 8
  simp only [List.getElem?_toArray, List.getElem?_cons_zero, List.getElem?_cons_succ] at y0 y1 y2 y3 y4 y5 y6 y7 y8
  replace hbk2 : Hid _ := hbk2
  replace hS2 : Hid (St B b T o1 [] (dp + 1) w w2) := hS2
  have hK2 : Hid (Kps B b w w2) := hK1.out.trans hK
  clear hK
  go_wp2_with fail
  go_at_call 21
  refine Calls.mono (hC.out w2 hS2.out) ?_
  rintro e w3 ⟨rfl, hK, hS3⟩
  have hbk3 := hK.box hbk2.out (by decide) (by have := hlt.out; omega)
  have z0 := box_cell hbk3 0
  have z1 := box_cell hbk3 1
  have z2 := box_cell hbk3 2
  have z3 := box_cell hbk3 3
  have z4 := box_cell hbk3 4
  have z5 := box_cell hbk3 5
  have z6 := box_cell hbk3 6
  have z7 := box_cell hbk3 7
  have z8 := box_cell hbk3 8
  simp only [List.getElem?_toArray, List.getElem?_cons_zero, List.getElem?_cons_succ] at z0 z1 z2 z3 z4 z5 z6 z7 z8
  replace hbk3 : Hid _ := hbk3
  replace hS3 : Hid (St B b T o1 [78, 79, 84, 32] (dp + 1) w w3) := hS3
  have hK3 : Hid (Kps B b w w3) := hK2.out.trans hK
  clear hK
  go_wp2_with fail
  go_at_call 22
  refine Calls.mono (hA.out w3 hS3.out) ?_
  rintro e w4 ⟨rfl, hK, hS4⟩
  replace hS4 : Hid (St B b T o2 XA (dp + 1) w w4) := hS4
  have hK4 : Hid (Kps B b w w4) := hK3.out.trans hK
  clear hK
  have g1 := hS4.out.deep_cell.1
  have g2 := hS4.out.deep_cell.2
  have hF := hS4.out.deep dp
  replace hF : Hid _ := hF
  go_wp2_with fail
  exact bodyPost_end (results_none rfl _ _ _) rfl ⟨rfl, hF.out⟩
set_option maxRecDepth 100000 in
set_option maxHeartbeats 2000000 in
theorem rexpr_neg {o1 o2 : Bool} {XA : List UInt8} {B b : Nat} {T : List UInt8} {dp : Int} (nm pr : List UInt8) (k : Int) (bb : Bool) (n : Int) (t : List UInt8) (kp : Option Addr) (kn kc : Nat) (pa : Option Addr) (pl pc : Nat) (w : World)
    (hS : St B b T true [] dp w w) (hf : ∀ w1, Below w.heap.size w w1 → Calls Tryd.prog 18 #[.agg #[.int .i64 18, .slice kp kn kc, .string (txt nm), .string (txt pr), .int .i64 k, .bool bb, .int .i64 n, .string (txt t), .slice pa pl pc]] w1 fun e w' => e = .returned (.bool true) ∧ Below w1.heap.size w1 w') (h0 : 0 ≤ dp) (h1 : dp ≤ 1000)
    (hD : ∀ w2, St B b T true [] dp w w2 → Calls Tryd.prog 24 #[.pointer (some ⟨b, 0, none⟩)] w2 fun e w' => e = .returned (.tuple #[]) ∧ Kps B b w2 w' ∧ St B b T o1 [] (dp + 1) w w')
    (hA : ∀ w2, St B b T o1 [45] (dp + 1) w w2 → Calls Tryd.prog 22 #[.pointer (some ⟨b, 0, none⟩), .agg #[.int .i64 18, .slice kp kn kc, .string (txt nm), .string (txt pr), .int .i64 k, .bool bb, .int .i64 n, .string (txt t), .slice pa pl pc], .int .i64 0] w2 fun e w' => e = .returned (.tuple #[]) ∧ Kps B b w2 w' ∧ St B b T o2 XA (dp + 1) w w') :
    Calls Tryd.prog 9 #[.pointer (some ⟨b, 0, none⟩), .agg #[.int .i64 18, .slice kp kn kc, .string (txt nm), .string (txt pr), .int .i64 k, .bool bb, .int .i64 n, .string (txt t), .slice pa pl pc]] w fun e w' => e = .returned (.tuple #[]) ∧ St B b T o2 XA dp w w' := by
  have hC := fun (w2 : World) (h : St B b T o1 [] (dp + 1) w w2) => h.says [45] (by decide)
  rw [show txt [45] = ⟨#[45]⟩ from rfl] at hC
  have hb9 : dp + 1 - 1 = dp := by omega
  replace hD : Hid _ := hD
  replace hA : Hid _ := hA
  replace hC : Hid _ := hC
  have hb0 := below_new w (.cells #[.int .i64 18, .slice kp kn kc, .string (txt nm), .string (txt pr), .int .i64 k, .bool bb, .int .i64 n, .string (txt t), .slice pa pl pc] 29)
  have hf0 := hf _ hb0
  have hlt : Hid _ := hS.ltb
  have hsz : Hid _ := hS.siz
  replace hb0 : Hid _ := hb0
  replace hf0 : Hid _ := hf0
  replace hS : Hid (St B b T true [] dp w w) := hS
  clear hf
  go_enter Tryd.func9, Tryd.ntmps9
  go_wp2_with fail
  go_at_call 18
  refine Calls.mono hf0.out ?_
  rintro e w1 ⟨rfl, hb1⟩
  have hb2 := below_on hb0.out hb1
  have hS1 := hS.out.below hb2
  have g1 : w1.cell? ⟨b, 2, none⟩ = some (.bool false) := hS1.bad_cell.1
  have hbk1 := (hb1.block w.heap.size (by simp)).trans (heap_alloc_new w (.cells #[.int .i64 18, .slice kp kn kc, .string (txt nm), .string (txt pr), .int .i64 k, .bool bb, .int .i64 n, .string (txt t), .slice pa pl pc] 29))
  have x0 := box_cell hbk1 0
  have x1 := box_cell hbk1 1
  have x2 := box_cell hbk1 2
  have x3 := box_cell hbk1 3
  have x4 := box_cell hbk1 4
  have x5 := box_cell hbk1 5
  have x6 := box_cell hbk1 6
  have x7 := box_cell hbk1 7
  have x8 := box_cell hbk1 8
  simp only [List.getElem?_toArray, List.getElem?_cons_zero, List.getElem?_cons_succ] at x0 x1 x2 x3 x4 x5 x6 x7 x8
  replace hbk1 : Hid _ := hbk1
  replace hb2 : Hid (Below w.heap.size w w1) := hb2
  replace hS1 : Hid (St B b T true [] dp w w1) := hS1
  have hK1 : Hid (Kps B b w w1) := Kps.of hb2.out hsz.out
  go_wp2_with fail
  go_at_call 24
  refine Calls.mono (hD.out w1 hS1.out) ?_
  rintro e w2 ⟨rfl, hK, hS2⟩
  have hbk2 := hK.box hbk1.out (by decide) (by have := hlt.out; omega)
  have y0 := box_cell hbk2 0
  have y1 := box_cell hbk2 1
  have y2 := box_cell hbk2 2
  have y3 := box_cell hbk2 3
  have y4 := box_cell hbk2 4
  have y5 := box_cell hbk2 5
  have y6 := box_cell hbk2 6
  have y7 := box_cell hbk2 7
  have y8 := box_cell hbk2 8
  simp only [List.getElem?_toArray, List.getElem?_cons_zero, List.getElem?_cons_succ] at y0 y1 y2 y3 y4 y5 y6 y7 y8
  replace hbk2 : Hid _ := hbk2
  replace hS2 : Hid (St B b T o1 [] (dp + 1) w w2) := hS2
  have hK2 : Hid (Kps B b w w2) := hK1.out.trans hK
  clear hK
  go_wp2_with fail
  go_at_call 21
  refine Calls.mono (hC.out w2 hS2.out) ?_
  rintro e w3 ⟨rfl, hK, hS3⟩
  have hbk3 := hK.box hbk2.out (by decide) (by have := hlt.out; omega)
  have z0 := box_cell hbk3 0
  have z1 := box_cell hbk3 1
  have z2 := box_cell hbk3 2
  have z3 := box_cell hbk3 3
  have z4 := box_cell hbk3 4
  have z5 := box_cell hbk3 5
  have z6 := box_cell hbk3 6
  have z7 := box_cell hbk3 7
  have z8 := box_cell hbk3 8
  simp only [List.getElem?_toArray, List.getElem?_cons_zero, List.getElem?_cons_succ] at z0 z1 z2 z3 z4 z5 z6 z7 z8
  replace hbk3 : Hid _ := hbk3
  replace hS3 : Hid (St B b T o1 [45] (dp + 1) w w3) := hS3
  have hK3 : Hid (Kps B b w w3) := hK2.out.trans hK
  clear hK
  go_wp2_with fail
  go_at_call 22
  refine Calls.mono (hA.out w3 hS3.out) ?_
  rintro e w4 ⟨rfl, hK, hS4⟩
  replace hS4 : Hid (St B b T o2 XA (dp + 1) w w4) := hS4
  have hK4 : Hid (Kps B b w w4) := hK3.out.trans hK
  clear hK
  have g1 := hS4.out.deep_cell.1
  have g2 := hS4.out.deep_cell.2
  have hF := hS4.out.deep dp
  replace hF : Hid _ := hF
  go_wp2_with fail
  exact bodyPost_end (results_none rfl _ _ _) rfl ⟨rfl, hF.out⟩
set_option maxRecDepth 100000 in
set_option maxHeartbeats 2000000 in
theorem rexpr_null {o2 : Bool} {XA : List UInt8} {B b : Nat} {T : List UInt8} {dp : Int} (nm pr : List UInt8) (k : Int) (bb : Bool) (n : Int) (t : List UInt8) (kp : Option Addr) (kn kc : Nat) (pa : Option Addr) (pl pc : Nat) (w : World)
    (hS : St B b T true [] dp w w) (hf : ∀ w1, Below w.heap.size w w1 → Calls Tryd.prog 18 #[.agg #[.int .i64 19, .slice kp kn kc, .string (txt nm), .string (txt pr), .int .i64 k, .bool bb, .int .i64 n, .string (txt t), .slice pa pl pc]] w1 fun e w' => e = .returned (.bool true) ∧ Below w1.heap.size w1 w')
    (hA : ∀ w2, St B b T true [] dp w w2 → Calls Tryd.prog 22 #[.pointer (some ⟨b, 0, none⟩), .agg #[.int .i64 19, .slice kp kn kc, .string (txt nm), .string (txt pr), .int .i64 k, .bool bb, .int .i64 n, .string (txt t), .slice pa pl pc], .int .i64 0] w2 fun e w' => e = .returned (.tuple #[]) ∧ Kps B b w2 w' ∧ St B b T o2 XA dp w w') :
    Calls Tryd.prog 9 #[.pointer (some ⟨b, 0, none⟩), .agg #[.int .i64 19, .slice kp kn kc, .string (txt nm), .string (txt pr), .int .i64 k, .bool bb, .int .i64 n, .string (txt t), .slice pa pl pc]] w fun e w' => e = .returned (.tuple #[]) ∧ St B b T o2 (XA ++ [32, 73, 83, 32, 78, 85, 76, 76]) dp w w' := by
  have hC := fun (w2 : World) (h : St B b T o2 XA dp w w2) => h.says [32, 73, 83, 32, 78, 85, 76, 76] (by decide)
  rw [show txt [32, 73, 83, 32, 78, 85, 76, 76] = ⟨#[32, 73, 83, 32, 78, 85, 76, 76]⟩ from rfl] at hC
  replace hA : Hid _ := hA
  replace hC : Hid _ := hC
  have hb0 := below_new w (.cells #[.int .i64 19, .slice kp kn kc, .string (txt nm), .string (txt pr), .int .i64 k, .bool bb, .int .i64 n, .string (txt t), .slice pa pl pc] 29)
  have hf0 := hf _ hb0
  have hlt : Hid _ := hS.ltb
  have hsz : Hid _ := hS.siz
  replace hb0 : Hid _ := hb0
  replace hf0 : Hid _ := hf0
  replace hS : Hid (St B b T true [] dp w w) := hS
  clear hf
  go_enter Tryd.func9, Tryd.ntmps9
  go_wp2_with fail
  go_at_call 18
  refine Calls.mono hf0.out ?_
  rintro e w1 ⟨rfl, hb1⟩
  have hb2 := below_on hb0.out hb1
  have hS1 := hS.out.below hb2
  have g1 : w1.cell? ⟨b, 2, none⟩ = some (.bool false) := hS1.bad_cell.1
  have hbk1 := (hb1.block w.heap.size (by simp)).trans (heap_alloc_new w (.cells #[.int .i64 19, .slice kp kn kc, .string (txt nm), .string (txt pr), .int .i64 k, .bool bb, .int .i64 n, .string (txt t), .slice pa pl pc] 29))
  have x0 := box_cell hbk1 0
  have x1 := box_cell hbk1 1
  have x2 := box_cell hbk1 2
  have x3 := box_cell hbk1 3
  have x4 := box_cell hbk1 4
  have x5 := box_cell hbk1 5
  have x6 := box_cell hbk1 6
  have x7 := box_cell hbk1 7
  have x8 := box_cell hbk1 8
  simp only [List.getElem?_toArray, List.getElem?_cons_zero, List.getElem?_cons_succ] at x0 x1 x2 x3 x4 x5 x6 x7 x8
  replace hbk1 : Hid _ := hbk1
  replace hb2 : Hid (Below w.heap.size w w1) := hb2
  replace hS1 : Hid (St B b T true [] dp w w1) := hS1
  have hK1 : Hid (Kps B b w w1) := Kps.of hb2.out hsz.out
  go_wp2_with fail
  go_at_call 22
  refine Calls.mono (hA.out w1 hS1.out) ?_
  rintro e w2 ⟨rfl, hK, hS2⟩
  have hbk2 := hK.box hbk1.out (by decide) (by have := hlt.out; omega)
  have y0 := box_cell hbk2 0
  have y1 := box_cell hbk2 1
  have y2 := box_cell hbk2 2
  have y3 := box_cell hbk2 3
  have y4 := box_cell hbk2 4
  have y5 := box_cell hbk2 5
  have y6 := box_cell hbk2 6
  have y7 := box_cell hbk2 7
  have y8 := box_cell hbk2 8
  simp only [List.getElem?_toArray, List.getElem?_cons_zero, List.getElem?_cons_succ] at y0 y1 y2 y3 y4 y5 y6 y7 y8
  replace hbk2 : Hid _ := hbk2
  replace hS2 : Hid (St B b T o2 XA dp w w2) := hS2
  have hK2 : Hid (Kps B b w w2) := hK1.out.trans hK
  clear hK
  go_wp2_with fail
  go_at_call 21
  refine Calls.mono (hC.out w2 hS2.out) ?_
  rintro e w3 ⟨rfl, hK, hS3⟩
  replace hS3 : Hid (St B b T o2 (XA ++ [32, 73, 83, 32, 78, 85, 76, 76]) dp w w3) := hS3
  have hK3 : Hid (Kps B b w w3) := hK2.out.trans hK
  clear hK
  go_wp2_with fail
  exact bodyPost_end (results_none rfl _ _ _) rfl ⟨rfl, hS3.out⟩
set_option maxRecDepth 100000 in
set_option maxHeartbeats 2000000 in
theorem rexpr_some {o2 : Bool} {XA : List UInt8} {B b : Nat} {T : List UInt8} {dp : Int} (nm pr : List UInt8) (k : Int) (bb : Bool) (n : Int) (t : List UInt8) (kp : Option Addr) (kn kc : Nat) (pa : Option Addr) (pl pc : Nat) (w : World)
    (hS : St B b T true [] dp w w) (hf : ∀ w1, Below w.heap.size w w1 → Calls Tryd.prog 18 #[.agg #[.int .i64 20, .slice kp kn kc, .string (txt nm), .string (txt pr), .int .i64 k, .bool bb, .int .i64 n, .string (txt t), .slice pa pl pc]] w1 fun e w' => e = .returned (.bool true) ∧ Below w1.heap.size w1 w')
    (hA : ∀ w2, St B b T true [] dp w w2 → Calls Tryd.prog 22 #[.pointer (some ⟨b, 0, none⟩), .agg #[.int .i64 20, .slice kp kn kc, .string (txt nm), .string (txt pr), .int .i64 k, .bool bb, .int .i64 n, .string (txt t), .slice pa pl pc], .int .i64 0] w2 fun e w' => e = .returned (.tuple #[]) ∧ Kps B b w2 w' ∧ St B b T o2 XA dp w w') :
    Calls Tryd.prog 9 #[.pointer (some ⟨b, 0, none⟩), .agg #[.int .i64 20, .slice kp kn kc, .string (txt nm), .string (txt pr), .int .i64 k, .bool bb, .int .i64 n, .string (txt t), .slice pa pl pc]] w fun e w' => e = .returned (.tuple #[]) ∧ St B b T o2 (XA ++ [32, 73, 83, 32, 78, 79, 84, 32, 78, 85, 76, 76]) dp w w' := by
  have hC := fun (w2 : World) (h : St B b T o2 XA dp w w2) => h.says [32, 73, 83, 32, 78, 79, 84, 32, 78, 85, 76, 76] (by decide)
  rw [show txt [32, 73, 83, 32, 78, 79, 84, 32, 78, 85, 76, 76] = ⟨#[32, 73, 83, 32, 78, 79, 84, 32, 78, 85, 76, 76]⟩ from rfl] at hC
  replace hA : Hid _ := hA
  replace hC : Hid _ := hC
  have hb0 := below_new w (.cells #[.int .i64 20, .slice kp kn kc, .string (txt nm), .string (txt pr), .int .i64 k, .bool bb, .int .i64 n, .string (txt t), .slice pa pl pc] 29)
  have hf0 := hf _ hb0
  have hlt : Hid _ := hS.ltb
  have hsz : Hid _ := hS.siz
  replace hb0 : Hid _ := hb0
  replace hf0 : Hid _ := hf0
  replace hS : Hid (St B b T true [] dp w w) := hS
  clear hf
  go_enter Tryd.func9, Tryd.ntmps9
  go_wp2_with fail
  go_at_call 18
  refine Calls.mono hf0.out ?_
  rintro e w1 ⟨rfl, hb1⟩
  have hb2 := below_on hb0.out hb1
  have hS1 := hS.out.below hb2
  have g1 : w1.cell? ⟨b, 2, none⟩ = some (.bool false) := hS1.bad_cell.1
  have hbk1 := (hb1.block w.heap.size (by simp)).trans (heap_alloc_new w (.cells #[.int .i64 20, .slice kp kn kc, .string (txt nm), .string (txt pr), .int .i64 k, .bool bb, .int .i64 n, .string (txt t), .slice pa pl pc] 29))
  have x0 := box_cell hbk1 0
  have x1 := box_cell hbk1 1
  have x2 := box_cell hbk1 2
  have x3 := box_cell hbk1 3
  have x4 := box_cell hbk1 4
  have x5 := box_cell hbk1 5
  have x6 := box_cell hbk1 6
  have x7 := box_cell hbk1 7
  have x8 := box_cell hbk1 8
  simp only [List.getElem?_toArray, List.getElem?_cons_zero, List.getElem?_cons_succ] at x0 x1 x2 x3 x4 x5 x6 x7 x8
  replace hbk1 : Hid _ := hbk1
  replace hb2 : Hid (Below w.heap.size w w1) := hb2
  replace hS1 : Hid (St B b T true [] dp w w1) := hS1
  have hK1 : Hid (Kps B b w w1) := Kps.of hb2.out hsz.out
  go_wp2_with fail
  go_at_call 22
  refine Calls.mono (hA.out w1 hS1.out) ?_
  rintro e w2 ⟨rfl, hK, hS2⟩
  have hbk2 := hK.box hbk1.out (by decide) (by have := hlt.out; omega)
  have y0 := box_cell hbk2 0
  have y1 := box_cell hbk2 1
  have y2 := box_cell hbk2 2
  have y3 := box_cell hbk2 3
  have y4 := box_cell hbk2 4
  have y5 := box_cell hbk2 5
  have y6 := box_cell hbk2 6
  have y7 := box_cell hbk2 7
  have y8 := box_cell hbk2 8
  simp only [List.getElem?_toArray, List.getElem?_cons_zero, List.getElem?_cons_succ] at y0 y1 y2 y3 y4 y5 y6 y7 y8
  replace hbk2 : Hid _ := hbk2
  replace hS2 : Hid (St B b T o2 XA dp w w2) := hS2
  have hK2 : Hid (Kps B b w w2) := hK1.out.trans hK
  clear hK
  go_wp2_with fail
  go_at_call 21
  refine Calls.mono (hC.out w2 hS2.out) ?_
  rintro e w3 ⟨rfl, hK, hS3⟩
  replace hS3 : Hid (St B b T o2 (XA ++ [32, 73, 83, 32, 78, 79, 84, 32, 78, 85, 76, 76]) dp w w3) := hS3
  have hK3 : Hid (Kps B b w w3) := hK2.out.trans hK
  clear hK
  go_wp2_with fail
  exact bodyPost_end (results_none rfl _ _ _) rfl ⟨rfl, hS3.out⟩
set_option maxRecDepth 100000 in
set_option maxHeartbeats 2000000 in
theorem rexpr_lit {XA : List UInt8} {B b : Nat} {T : List UInt8} {dp : Int} (nm pr : List UInt8) (k : Int) (bb : Bool) (n : Int) (t : List UInt8) (kp : Option Addr) (kn kc : Nat) (pa : Option Addr) (pl pc : Nat) (w : World)
    (hS : St B b T true [] dp w w) (hf : ∀ w1, Below w.heap.size w w1 → Calls Tryd.prog 18 #[.agg #[.int .i64 1, .slice kp kn kc, .string (txt nm), .string (txt pr), .int .i64 k, .bool bb, .int .i64 n, .string (txt t), .slice pa pl pc]] w1 fun e w' => e = .returned (.bool true) ∧ Below w1.heap.size w1 w')
    (hA : ∀ w2, St B b T true [] dp w w2 → Calls Tryd.prog 19 #[.pointer (some ⟨b, 0, none⟩), .agg #[.int .i64 k, .bool bb, .int .i64 n, .string (txt t), .slice pa pl pc]] w2 fun e w' => e = .returned (.tuple #[]) ∧ Kps B b w2 w' ∧ St B b T true XA dp w w') :
    Calls Tryd.prog 9 #[.pointer (some ⟨b, 0, none⟩), .agg #[.int .i64 1, .slice kp kn kc, .string (txt nm), .string (txt pr), .int .i64 k, .bool bb, .int .i64 n, .string (txt t), .slice pa pl pc]] w fun e w' => e = .returned (.tuple #[]) ∧ St B b T true XA dp w w' := by
  replace hA : Hid _ := hA
  have hb0 := below_new w (.cells #[.int .i64 1, .slice kp kn kc, .string (txt nm), .string (txt pr), .int .i64 k, .bool bb, .int .i64 n, .string (txt t), .slice pa pl pc] 29)
  have hf0 := hf _ hb0
  have hlt : Hid _ := hS.ltb
  have hsz : Hid _ := hS.siz
  replace hb0 : Hid _ := hb0
  replace hf0 : Hid _ := hf0
  replace hS : Hid (St B b T true [] dp w w) := hS
  clear hf
  go_enter Tryd.func9, Tryd.ntmps9
  go_wp2_with fail
  go_at_call 18
  refine Calls.mono hf0.out ?_
  rintro e w1 ⟨rfl, hb1⟩
  have hb2 := below_on hb0.out hb1
  have hS1 := hS.out.below hb2
  have g1 : w1.cell? ⟨b, 2, none⟩ = some (.bool false) := hS1.bad_cell.1
  have hbk1 := (hb1.block w.heap.size (by simp)).trans (heap_alloc_new w (.cells #[.int .i64 1, .slice kp kn kc, .string (txt nm), .string (txt pr), .int .i64 k, .bool bb, .int .i64 n, .string (txt t), .slice pa pl pc] 29))
  have x0 := box_cell hbk1 0
  have x1 := box_cell hbk1 1
  have x2 := box_cell hbk1 2
  have x3 := box_cell hbk1 3
  have x4 := box_cell hbk1 4
  have x5 := box_cell hbk1 5
  have x6 := box_cell hbk1 6
  have x7 := box_cell hbk1 7
  have x8 := box_cell hbk1 8
  simp only [List.getElem?_toArray, List.getElem?_cons_zero, List.getElem?_cons_succ] at x0 x1 x2 x3 x4 x5 x6 x7 x8
  replace hbk1 : Hid _ := hbk1
  replace hb2 : Hid (Below w.heap.size w w1) := hb2
  replace hS1 : Hid (St B b T true [] dp w w1) := hS1
  have hK1 : Hid (Kps B b w w1) := Kps.of hb2.out hsz.out
  go_wp2_with fail
  go_at_call 19
  refine Calls.mono (hA.out w1 hS1.out) ?_
  rintro e w2 ⟨rfl, hK, hS2⟩
  replace hS2 : Hid (St B b T true XA dp w w2) := hS2
  have hK2 : Hid (Kps B b w w2) := hK1.out.trans hK
  clear hK
  go_wp2_with fail
  exact bodyPost_end (results_none rfl _ _ _) rfl ⟨rfl, hS2.out⟩
set_option maxRecDepth 100000 in
set_option maxHeartbeats 2000000 in
theorem rexpr_call {o2 : Bool} {XA : List UInt8} (op : Int) {B b : Nat} {T : List UInt8} {dp : Int} (nm pr : List UInt8) (k : Int) (bb : Bool) (n : Int) (t : List UInt8) (kp : Option Addr) (kn kc : Nat) (pa : Option Addr) (pl pc : Nat) (w : World)
    (hS : St B b T true [] dp w w) (hf : ∀ w1, Below w.heap.size w w1 → Calls Tryd.prog 18 #[.agg #[.int .i64 op, .slice kp kn kc, .string (txt nm), .string (txt pr), .int .i64 k, .bool bb, .int .i64 n, .string (txt t), .slice pa pl pc]] w1 fun e w' => e = .returned (.bool true) ∧ Below w1.heap.size w1 w') (o21 : 21 ≤ op)
    (hA : ∀ w2, St B b T true [] dp w w2 → Calls Tryd.prog 25 #[.pointer (some ⟨b, 0, none⟩), .agg #[.int .i64 op, .slice kp kn kc, .string (txt nm), .string (txt pr), .int .i64 k, .bool bb, .int .i64 n, .string (txt t), .slice pa pl pc]] w2 fun e w' => e = .returned (.tuple #[]) ∧ Kps B b w2 w' ∧ St B b T o2 XA dp w w') :
    Calls Tryd.prog 9 #[.pointer (some ⟨b, 0, none⟩), .agg #[.int .i64 op, .slice kp kn kc, .string (txt nm), .string (txt pr), .int .i64 k, .bool bb, .int .i64 n, .string (txt t), .slice pa pl pc]] w fun e w' => e = .returned (.tuple #[]) ∧ St B b T o2 XA dp w w' := by
  have e1 : (op == 1) = false := by simp; omega
  have e2 : (op == 2) = false := by simp; omega
  have e3 : (op == 3) = false := by simp; omega
  have e17 : (op == 17) = false := by simp; omega
  have e18 : (op == 18) = false := by simp; omega
  have e19 : (op == 19) = false := by simp; omega
  have e20 : (op == 20) = false := by simp; omega
  have d16 : decide (op ≤ 16) = false := by simp; omega
  replace hA : Hid _ := hA
  have hb0 := below_new w (.cells #[.int .i64 op, .slice kp kn kc, .string (txt nm), .string (txt pr), .int .i64 k, .bool bb, .int .i64 n, .string (txt t), .slice pa pl pc] 29)
  have hf0 := hf _ hb0
  have hlt : Hid _ := hS.ltb
  have hsz : Hid _ := hS.siz
  replace hb0 : Hid _ := hb0
  replace hf0 : Hid _ := hf0
  replace hS : Hid (St B b T true [] dp w w) := hS
  clear hf
  go_enter Tryd.func9, Tryd.ntmps9
  go_wp2_with fail
  go_at_call 18
  refine Calls.mono hf0.out ?_
  rintro e w1 ⟨rfl, hb1⟩
  have hb2 := below_on hb0.out hb1
  have hS1 := hS.out.below hb2
  have g1 : w1.cell? ⟨b, 2, none⟩ = some (.bool false) := hS1.bad_cell.1
  have hbk1 := (hb1.block w.heap.size (by simp)).trans (heap_alloc_new w (.cells #[.int .i64 op, .slice kp kn kc, .string (txt nm), .string (txt pr), .int .i64 k, .bool bb, .int .i64 n, .string (txt t), .slice pa pl pc] 29))
  have x0 := box_cell hbk1 0
  have x1 := box_cell hbk1 1
  have x2 := box_cell hbk1 2
  have x3 := box_cell hbk1 3
  have x4 := box_cell hbk1 4
  have x5 := box_cell hbk1 5
  have x6 := box_cell hbk1 6
  have x7 := box_cell hbk1 7
  have x8 := box_cell hbk1 8
  simp only [List.getElem?_toArray, List.getElem?_cons_zero, List.getElem?_cons_succ] at x0 x1 x2 x3 x4 x5 x6 x7 x8
  replace hbk1 : Hid _ := hbk1
  replace hb2 : Hid (Below w.heap.size w w1) := hb2
  replace hS1 : Hid (St B b T true [] dp w w1) := hS1
  have hK1 : Hid (Kps B b w w1) := Kps.of hb2.out hsz.out
  go_wp2_with fail
  go_at_call 25
  refine Calls.mono (hA.out w1 hS1.out) ?_
  rintro e w2 ⟨rfl, hK, hS2⟩
  replace hS2 : Hid (St B b T o2 XA dp w w2) := hS2
  have hK2 : Hid (Kps B b w w2) := hK1.out.trans hK
  clear hK
  go_wp2_with fail
  exact bodyPost_end (results_none rfl _ _ _) rfl ⟨rfl, hS2.out⟩
end Go.Proofs.YtkcnpbckmdgfnaaDoor
