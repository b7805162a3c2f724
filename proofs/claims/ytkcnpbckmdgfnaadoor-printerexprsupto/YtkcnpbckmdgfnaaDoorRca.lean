/-
  Rca: turned for the seat of the expressions.
-/
import Derived.Test.YtkcnpbckmdgfnaaDoorRtw
namespace Go.Proofs.YtkcnpbckmdgfnaaDoor
open Go.ChangeShapes Go.WideShapes Go.ChangeAt Go.RowKit
set_option linter.unusedSimpArgs false
set_option linter.unusedVariables false
set_option maxRecDepth 100000 in
set_option maxHeartbeats 2000000 in
theorem call_length {o1 o2 : Bool} {XA : List UInt8} (cop : Int) (cnm cpr : List UInt8) (ck : Int) (cb : Bool) (cn : Int) (ct : List UInt8) (ka : Option Addr) (kl kq : Nat) (ca : Option Addr) (cl cc : Nat) {B b : Nat} {T : List UInt8} {dp : Int} (nm pr : List UInt8) (k : Int) (bb : Bool) (n : Int) (t : List UInt8) (g o kn kc : Nat) (pa : Option Addr) (pl pc : Nat) (w : World)
    (hS : St B b T true [] dp w w) (hkn : 0 < kn) (h0 : 0 ≤ dp) (h1 : dp ≤ 1000)
    (hN : ∀ w2, Kps B b w w2 → Nine w2 g o cop cnm cpr ck cb cn ct (.slice ka kl kq) (.slice ca cl cc))
    (hD : ∀ w2, St B b T true [] dp w w2 → Calls Tryd.prog 24 #[.pointer (some ⟨b, 0, none⟩)] w2 fun e w' => e = .returned (.tuple #[]) ∧ Kps B b w2 w' ∧ St B b T o1 [] (dp + 1) w w')
    (hA : ∀ w2, St B b T o1 [76, 69, 78, 71, 84, 72, 40] (dp + 1) w w2 → Calls Tryd.prog 9 #[.pointer (some ⟨b, 0, none⟩), .agg #[.int .i64 cop, .slice ka kl kq, .string (txt cnm), .string (txt cpr), .int .i64 ck, .bool cb, .int .i64 cn, .string (txt ct), .slice ca cl cc]] w2 fun e w' => e = .returned (.tuple #[]) ∧ Kps B b w2 w' ∧ St B b T o2 XA (dp + 1) w w') :
    Calls Tryd.prog 25 #[.pointer (some ⟨b, 0, none⟩), .agg #[.int .i64 21, .slice (some ⟨g, o, none⟩) kn kc, .string (txt nm), .string (txt pr), .int .i64 k, .bool bb, .int .i64 n, .string (txt t), .slice pa pl pc]] w fun e w' => e = .returned (.tuple #[]) ∧ St B b T o2 (XA ++ [41]) dp w w' := by
  have hC := fun (w2 : World) (h : St B b T o1 [] (dp + 1) w w2) => h.says [76, 69, 78, 71, 84, 72, 40] (by decide)
  rw [show txt [76, 69, 78, 71, 84, 72, 40] = ⟨#[76, 69, 78, 71, 84, 72, 40]⟩ from rfl] at hC
  have hE := fun (w2 : World) (h : St B b T o2 XA (dp + 1) w w2) => h.says [41] (by decide)
  rw [show txt [41] = ⟨#[41]⟩ from rfl] at hE
  have hb9 : dp + 1 - 1 = dp := by omega
  replace hD : Hid _ := hD
  replace hN : Hid _ := hN
  replace hA : Hid _ := hA
  replace hC : Hid _ := hC
  replace hE : Hid _ := hE
  have hb0 := below_new w (.cells #[.int .i64 21, .slice (some ⟨g, o, none⟩) kn kc, .string (txt nm), .string (txt pr), .int .i64 k, .bool bb, .int .i64 n, .string (txt t), .slice pa pl pc] 29)
  have hlt : Hid _ := hS.ltb
  have hsz : Hid _ := hS.siz
  have hS1 := hS.below hb0
  have hbk1 := heap_alloc_new w (.cells #[.int .i64 21, .slice (some ⟨g, o, none⟩) kn kc, .string (txt nm), .string (txt pr), .int .i64 k, .bool bb, .int .i64 n, .string (txt t), .slice pa pl pc] 29)
  have hK1 : Hid (Kps B b w (w.alloc (.cells #[.int .i64 21, .slice (some ⟨g, o, none⟩) kn kc, .string (txt nm), .string (txt pr), .int .i64 k, .bool bb, .int .i64 n, .string (txt t), .slice pa pl pc] 29))) := Kps.of hb0 hsz.out
  replace hbk1 : Hid _ := hbk1
  replace hS1 : Hid (St B b T true [] dp w (w.alloc (.cells #[.int .i64 21, .slice (some ⟨g, o, none⟩) kn kc, .string (txt nm), .string (txt pr), .int .i64 k, .bool bb, .int .i64 n, .string (txt t), .slice pa pl pc] 29))) := hS1
  go_enter Tryd.func25, Tryd.ntmps25
  go_wp2_with fail
  go_at_call 24
  refine Calls.mono (hD.out _ hS1.out) ?_
  rintro e w2 ⟨rfl, hK, hS2⟩
  have hbk2 := hK.box hbk1.out (by decide) (by have := hlt.out; omega)
  have y0 := box_cell hbk2 0
  have y1 := box_cell hbk2 1
  have y2 := box_cell hbk2 2
  have y3 := box_cell hbk2 3
  have y4 := box_cell hbk2 4
  have y5 := box_cell hbk2 5
  have y6 := box_cell hbk2 6
  have y7 := box_cell hbk2 7
  have y8 := box_cell hbk2 8
  simp only [List.getElem?_toArray, List.getElem?_cons_zero, List.getElem?_cons_succ] at y0 y1 y2 y3 y4 y5 y6 y7 y8
  replace hbk2 : Hid _ := hbk2
  replace hS2 : Hid (St B b T o1 [] (dp + 1) w w2) := hS2
  have hK2 : Hid (Kps B b w w2) := hK1.out.trans hK
  clear hK hK1 hbk1 hS1 hb0
  go_wp2_with fail
  go_at_call 21
  refine Calls.mono (hC.out w2 hS2.out) ?_
  rintro e w3 ⟨rfl, hK, hS3⟩
  have hbk3 := hK.box hbk2.out (by decide) (by have := hlt.out; omega)
  have z0 := box_cell hbk3 0
  have z1 := box_cell hbk3 1
  have z2 := box_cell hbk3 2
  have z3 := box_cell hbk3 3
  have z4 := box_cell hbk3 4
  have z5 := box_cell hbk3 5
  have z6 := box_cell hbk3 6
  have z7 := box_cell hbk3 7
  have z8 := box_cell hbk3 8
  simp only [List.getElem?_toArray, List.getElem?_cons_zero, List.getElem?_cons_succ] at z0 z1 z2 z3 z4 z5 z6 z7 z8
  replace hbk3 : Hid _ := hbk3
  replace hS3 : Hid (St B b T o1 [76, 69, 78, 71, 84, 72, 40] (dp + 1) w w3) := hS3
  have hK3 : Hid (Kps B b w w3) := hK2.out.trans hK
  clear hK
  obtain ⟨q0, q1, q2, q3, q4, q5, q6, q7, q8⟩ := hN.out w3 hK3.out
  go_wp2_with fail
  go_at_call 9
  refine Calls.mono (hA.out w3 hS3.out) ?_
  rintro e w4 ⟨rfl, hK, hS4⟩
  replace hS4 : Hid (St B b T o2 XA (dp + 1) w w4) := hS4
  have hK4 : Hid (Kps B b w w4) := hK3.out.trans hK
  clear hK
  go_wp2_with fail
  go_at_call 21
  refine Calls.mono (hE.out w4 hS4.out) ?_
  rintro e w5 ⟨rfl, hK, hS5⟩
  replace hS5 : Hid (St B b T o2 (XA ++ [41]) (dp + 1) w w5) := hS5
  have hK5 : Hid (Kps B b w w5) := hK4.out.trans hK
  clear hK
  have g1 := hS5.out.deep_cell.1
  have g2 := hS5.out.deep_cell.2
  have hF := hS5.out.deep dp
  replace hF : Hid _ := hF
  go_wp2_with fail
  exact bodyPost_end (results_none rfl _ _ _) rfl ⟨rfl, hF.out⟩
set_option maxRecDepth 100000 in
set_option maxHeartbeats 2000000 in
theorem call_count {o1 o2 : Bool} {XA : List UInt8} (cop : Int) (cnm cpr : List UInt8) (ck : Int) (cb : Bool) (cn : Int) (ct : List UInt8) (ka : Option Addr) (kl kq : Nat) (ca : Option Addr) (cl cc : Nat) {B b : Nat} {T : List UInt8} {dp : Int} (nm pr : List UInt8) (k : Int) (bb : Bool) (n : Int) (t : List UInt8) (g o kn kc : Nat) (pa : Option Addr) (pl pc : Nat) (w : World)
    (hS : St B b T true [] dp w w) (hkn : 0 < kn) (h0 : 0 ≤ dp) (h1 : dp ≤ 1000)
    (hN : ∀ w2, Kps B b w w2 → Nine w2 g o cop cnm cpr ck cb cn ct (.slice ka kl kq) (.slice ca cl cc))
    (hD : ∀ w2, St B b T true [] dp w w2 → Calls Tryd.prog 24 #[.pointer (some ⟨b, 0, none⟩)] w2 fun e w' => e = .returned (.tuple #[]) ∧ Kps B b w2 w' ∧ St B b T o1 [] (dp + 1) w w')
    (hA : ∀ w2, St B b T o1 [67, 79, 85, 78, 84, 40] (dp + 1) w w2 → Calls Tryd.prog 9 #[.pointer (some ⟨b, 0, none⟩), .agg #[.int .i64 cop, .slice ka kl kq, .string (txt cnm), .string (txt cpr), .int .i64 ck, .bool cb, .int .i64 cn, .string (txt ct), .slice ca cl cc]] w2 fun e w' => e = .returned (.tuple #[]) ∧ Kps B b w2 w' ∧ St B b T o2 XA (dp + 1) w w') :
    Calls Tryd.prog 25 #[.pointer (some ⟨b, 0, none⟩), .agg #[.int .i64 22, .slice (some ⟨g, o, none⟩) kn kc, .string (txt nm), .string (txt pr), .int .i64 k, .bool bb, .int .i64 n, .string (txt t), .slice pa pl pc]] w fun e w' => e = .returned (.tuple #[]) ∧ St B b T o2 (XA ++ [41]) dp w w' := by
  have hC := fun (w2 : World) (h : St B b T o1 [] (dp + 1) w w2) => h.says [67, 79, 85, 78, 84, 40] (by decide)
  rw [show txt [67, 79, 85, 78, 84, 40] = ⟨#[67, 79, 85, 78, 84, 40]⟩ from rfl] at hC
  have hE := fun (w2 : World) (h : St B b T o2 XA (dp + 1) w w2) => h.says [41] (by decide)
  rw [show txt [41] = ⟨#[41]⟩ from rfl] at hE
  have hb9 : dp + 1 - 1 = dp := by omega
  replace hD : Hid _ := hD
  replace hN : Hid _ := hN
  replace hA : Hid _ := hA
  replace hC : Hid _ := hC
  replace hE : Hid _ := hE
  have hb0 := below_new w (.cells #[.int .i64 22, .slice (some ⟨g, o, none⟩) kn kc, .string (txt nm), .string (txt pr), .int .i64 k, .bool bb, .int .i64 n, .string (txt t), .slice pa pl pc] 29)
  have hlt : Hid _ := hS.ltb
  have hsz : Hid _ := hS.siz
  have hS1 := hS.below hb0
  have hbk1 := heap_alloc_new w (.cells #[.int .i64 22, .slice (some ⟨g, o, none⟩) kn kc, .string (txt nm), .string (txt pr), .int .i64 k, .bool bb, .int .i64 n, .string (txt t), .slice pa pl pc] 29)
  have hK1 : Hid (Kps B b w (w.alloc (.cells #[.int .i64 22, .slice (some ⟨g, o, none⟩) kn kc, .string (txt nm), .string (txt pr), .int .i64 k, .bool bb, .int .i64 n, .string (txt t), .slice pa pl pc] 29))) := Kps.of hb0 hsz.out
  replace hbk1 : Hid _ := hbk1
  replace hS1 : Hid (St B b T true [] dp w (w.alloc (.cells #[.int .i64 22, .slice (some ⟨g, o, none⟩) kn kc, .string (txt nm), .string (txt pr), .int .i64 k, .bool bb, .int .i64 n, .string (txt t), .slice pa pl pc] 29))) := hS1
  go_enter Tryd.func25, Tryd.ntmps25
  go_wp2_with fail
  go_at_call 24
  refine Calls.mono (hD.out _ hS1.out) ?_
  rintro e w2 ⟨rfl, hK, hS2⟩
  have hbk2 := hK.box hbk1.out (by decide) (by have := hlt.out; omega)
  have y0 := box_cell hbk2 0
  have y1 := box_cell hbk2 1
  have y2 := box_cell hbk2 2
  have y3 := box_cell hbk2 3
  have y4 := box_cell hbk2 4
  have y5 := box_cell hbk2 5
  have y6 := box_cell hbk2 6
  have y7 := box_cell hbk2 7
  have y8 := box_cell hbk2 8
  simp only [List.getElem?_toArray, List.getElem?_cons_zero, List.getElem?_cons_succ] at y0 y1 y2 y3 y4 y5 y6 y7 y8
  replace hbk2 : Hid _ := hbk2
  replace hS2 : Hid (St B b T o1 [] (dp + 1) w w2) := hS2
  have hK2 : Hid (Kps B b w w2) := hK1.out.trans hK
  clear hK hK1 hbk1 hS1 hb0
  go_wp2_with fail
  go_at_call 21
  refine Calls.mono (hC.out w2 hS2.out) ?_
  rintro e w3 ⟨rfl, hK, hS3⟩
  have hbk3 := hK.box hbk2.out (by decide) (by have := hlt.out; omega)
  have z0 := box_cell hbk3 0
  have z1 := box_cell hbk3 1
  have z2 := box_cell hbk3 2
  have z3 := box_cell hbk3 3
  have z4 := box_cell hbk3 4
  have z5 := box_cell hbk3 5
  have z6 := box_cell hbk3 6
  have z7 := box_cell hbk3 7
  have z8 := box_cell hbk3 8
  simp only [List.getElem?_toArray, List.getElem?_cons_zero, List.getElem?_cons_succ] at z0 z1 z2 z3 z4 z5 z6 z7 z8
  replace hbk3 : Hid _ := hbk3
  replace hS3 : Hid (St B b T o1 [67, 79, 85, 78, 84, 40] (dp + 1) w w3) := hS3
  have hK3 : Hid (Kps B b w w3) := hK2.out.trans hK
  clear hK
  obtain ⟨q0, q1, q2, q3, q4, q5, q6, q7, q8⟩ := hN.out w3 hK3.out
  go_wp2_with fail
  go_at_call 9
  refine Calls.mono (hA.out w3 hS3.out) ?_
  rintro e w4 ⟨rfl, hK, hS4⟩
  replace hS4 : Hid (St B b T o2 XA (dp + 1) w w4) := hS4
  have hK4 : Hid (Kps B b w w4) := hK3.out.trans hK
  clear hK
  go_wp2_with fail
  go_at_call 21
  refine Calls.mono (hE.out w4 hS4.out) ?_
  rintro e w5 ⟨rfl, hK, hS5⟩
  replace hS5 : Hid (St B b T o2 (XA ++ [41]) (dp + 1) w w5) := hS5
  have hK5 : Hid (Kps B b w w5) := hK4.out.trans hK
  clear hK
  have g1 := hS5.out.deep_cell.1
  have g2 := hS5.out.deep_cell.2
  have hF := hS5.out.deep dp
  replace hF : Hid _ := hF
  go_wp2_with fail
  exact bodyPost_end (results_none rfl _ _ _) rfl ⟨rfl, hF.out⟩
set_option maxRecDepth 100000 in
set_option maxHeartbeats 2000000 in
theorem call_sum {o1 o2 : Bool} {XA : List UInt8} (cop : Int) (cnm cpr : List UInt8) (ck : Int) (cb : Bool) (cn : Int) (ct : List UInt8) (ka : Option Addr) (kl kq : Nat) (ca : Option Addr) (cl cc : Nat) {B b : Nat} {T : List UInt8} {dp : Int} (nm pr : List UInt8) (k : Int) (bb : Bool) (n : Int) (t : List UInt8) (g o kn kc : Nat) (pa : Option Addr) (pl pc : Nat) (w : World)
    (hS : St B b T true [] dp w w) (hkn : 0 < kn) (h0 : 0 ≤ dp) (h1 : dp ≤ 1000)
    (hN : ∀ w2, Kps B b w w2 → Nine w2 g o cop cnm cpr ck cb cn ct (.slice ka kl kq) (.slice ca cl cc))
    (hD : ∀ w2, St B b T true [] dp w w2 → Calls Tryd.prog 24 #[.pointer (some ⟨b, 0, none⟩)] w2 fun e w' => e = .returned (.tuple #[]) ∧ Kps B b w2 w' ∧ St B b T o1 [] (dp + 1) w w')
    (hA : ∀ w2, St B b T o1 [83, 85, 77, 40] (dp + 1) w w2 → Calls Tryd.prog 9 #[.pointer (some ⟨b, 0, none⟩), .agg #[.int .i64 cop, .slice ka kl kq, .string (txt cnm), .string (txt cpr), .int .i64 ck, .bool cb, .int .i64 cn, .string (txt ct), .slice ca cl cc]] w2 fun e w' => e = .returned (.tuple #[]) ∧ Kps B b w2 w' ∧ St B b T o2 XA (dp + 1) w w') :
    Calls Tryd.prog 25 #[.pointer (some ⟨b, 0, none⟩), .agg #[.int .i64 23, .slice (some ⟨g, o, none⟩) kn kc, .string (txt nm), .string (txt pr), .int .i64 k, .bool bb, .int .i64 n, .string (txt t), .slice pa pl pc]] w fun e w' => e = .returned (.tuple #[]) ∧ St B b T o2 (XA ++ [41]) dp w w' := by
  have hC := fun (w2 : World) (h : St B b T o1 [] (dp + 1) w w2) => h.says [83, 85, 77, 40] (by decide)
  rw [show txt [83, 85, 77, 40] = ⟨#[83, 85, 77, 40]⟩ from rfl] at hC
  have hE := fun (w2 : World) (h : St B b T o2 XA (dp + 1) w w2) => h.says [41] (by decide)
  rw [show txt [41] = ⟨#[41]⟩ from rfl] at hE
  have hb9 : dp + 1 - 1 = dp := by omega
  replace hD : Hid _ := hD
  replace hN : Hid _ := hN
  replace hA : Hid _ := hA
  replace hC : Hid _ := hC
  replace hE : Hid _ := hE
  have hb0 := below_new w (.cells #[.int .i64 23, .slice (some ⟨g, o, none⟩) kn kc, .string (txt nm), .string (txt pr), .int .i64 k, .bool bb, .int .i64 n, .string (txt t), .slice pa pl pc] 29)
  have hlt : Hid _ := hS.ltb
  have hsz : Hid _ := hS.siz
  have hS1 := hS.below hb0
  have hbk1 := heap_alloc_new w (.cells #[.int .i64 23, .slice (some ⟨g, o, none⟩) kn kc, .string (txt nm), .string (txt pr), .int .i64 k, .bool bb, .int .i64 n, .string (txt t), .slice pa pl pc] 29)
  have hK1 : Hid (Kps B b w (w.alloc (.cells #[.int .i64 23, .slice (some ⟨g, o, none⟩) kn kc, .string (txt nm), .string (txt pr), .int .i64 k, .bool bb, .int .i64 n, .string (txt t), .slice pa pl pc] 29))) := Kps.of hb0 hsz.out
  replace hbk1 : Hid _ := hbk1
  replace hS1 : Hid (St B b T true [] dp w (w.alloc (.cells #[.int .i64 23, .slice (some ⟨g, o, none⟩) kn kc, .string (txt nm), .string (txt pr), .int .i64 k, .bool bb, .int .i64 n, .string (txt t), .slice pa pl pc] 29))) := hS1
  go_enter Tryd.func25, Tryd.ntmps25
  go_wp2_with fail
  go_at_call 24
  refine Calls.mono (hD.out _ hS1.out) ?_
  rintro e w2 ⟨rfl, hK, hS2⟩
  have hbk2 := hK.box hbk1.out (by decide) (by have := hlt.out; omega)
  have y0 := box_cell hbk2 0
  have y1 := box_cell hbk2 1
  have y2 := box_cell hbk2 2
  have y3 := box_cell hbk2 3
  have y4 := box_cell hbk2 4
  have y5 := box_cell hbk2 5
  have y6 := box_cell hbk2 6
  have y7 := box_cell hbk2 7
  have y8 := box_cell hbk2 8
  simp only [List.getElem?_toArray, List.getElem?_cons_zero, List.getElem?_cons_succ] at y0 y1 y2 y3 y4 y5 y6 y7 y8
  replace hbk2 : Hid _ := hbk2
  replace hS2 : Hid (St B b T o1 [] (dp + 1) w w2) := hS2
  have hK2 : Hid (Kps B b w w2) := hK1.out.trans hK
  clear hK hK1 hbk1 hS1 hb0
  go_wp2_with fail
  go_at_call 21
  refine Calls.mono (hC.out w2 hS2.out) ?_
  rintro e w3 ⟨rfl, hK, hS3⟩
  have hbk3 := hK.box hbk2.out (by decide) (by have := hlt.out; omega)
  have z0 := box_cell hbk3 0
  have z1 := box_cell hbk3 1
  have z2 := box_cell hbk3 2
  have z3 := box_cell hbk3 3
  have z4 := box_cell hbk3 4
  have z5 := box_cell hbk3 5
  have z6 := box_cell hbk3 6
  have z7 := box_cell hbk3 7
  have z8 := box_cell hbk3 8
  simp only [List.getElem?_toArray, List.getElem?_cons_zero, List.getElem?_cons_succ] at z0 z1 z2 z3 z4 z5 z6 z7 z8
  replace hbk3 : Hid _ := hbk3
  replace hS3 : Hid (St B b T o1 [83, 85, 77, 40] (dp + 1) w w3) := hS3
  have hK3 : Hid (Kps B b w w3) := hK2.out.trans hK
  clear hK
  obtain ⟨q0, q1, q2, q3, q4, q5, q6, q7, q8⟩ := hN.out w3 hK3.out
  go_wp2_with fail
  go_at_call 9
  refine Calls.mono (hA.out w3 hS3.out) ?_
  rintro e w4 ⟨rfl, hK, hS4⟩
  replace hS4 : Hid (St B b T o2 XA (dp + 1) w w4) := hS4
  have hK4 : Hid (Kps B b w w4) := hK3.out.trans hK
  clear hK
  go_wp2_with fail
  go_at_call 21
  refine Calls.mono (hE.out w4 hS4.out) ?_
  rintro e w5 ⟨rfl, hK, hS5⟩
  replace hS5 : Hid (St B b T o2 (XA ++ [41]) (dp + 1) w w5) := hS5
  have hK5 : Hid (Kps B b w w5) := hK4.out.trans hK
  clear hK
  have g1 := hS5.out.deep_cell.1
  have g2 := hS5.out.deep_cell.2
  have hF := hS5.out.deep dp
  replace hF : Hid _ := hF
  go_wp2_with fail
  exact bodyPost_end (results_none rfl _ _ _) rfl ⟨rfl, hF.out⟩
set_option maxRecDepth 100000 in
set_option maxHeartbeats 2000000 in
theorem call_min {o1 o2 : Bool} {XA : List UInt8} (cop : Int) (cnm cpr : List UInt8) (ck : Int) (cb : Bool) (cn : Int) (ct : List UInt8) (ka : Option Addr) (kl kq : Nat) (ca : Option Addr) (cl cc : Nat) {B b : Nat} {T : List UInt8} {dp : Int} (nm pr : List UInt8) (k : Int) (bb : Bool) (n : Int) (t : List UInt8) (g o kn kc : Nat) (pa : Option Addr) (pl pc : Nat) (w : World)
    (hS : St B b T true [] dp w w) (hkn : 0 < kn) (h0 : 0 ≤ dp) (h1 : dp ≤ 1000)
    (hN : ∀ w2, Kps B b w w2 → Nine w2 g o cop cnm cpr ck cb cn ct (.slice ka kl kq) (.slice ca cl cc))
    (hD : ∀ w2, St B b T true [] dp w w2 → Calls Tryd.prog 24 #[.pointer (some ⟨b, 0, none⟩)] w2 fun e w' => e = .returned (.tuple #[]) ∧ Kps B b w2 w' ∧ St B b T o1 [] (dp + 1) w w')
    (hA : ∀ w2, St B b T o1 [77, 73, 78, 40] (dp + 1) w w2 → Calls Tryd.prog 9 #[.pointer (some ⟨b, 0, none⟩), .agg #[.int .i64 cop, .slice ka kl kq, .string (txt cnm), .string (txt cpr), .int .i64 ck, .bool cb, .int .i64 cn, .string (txt ct), .slice ca cl cc]] w2 fun e w' => e = .returned (.tuple #[]) ∧ Kps B b w2 w' ∧ St B b T o2 XA (dp + 1) w w') :
    Calls Tryd.prog 25 #[.pointer (some ⟨b, 0, none⟩), .agg #[.int .i64 24, .slice (some ⟨g, o, none⟩) kn kc, .string (txt nm), .string (txt pr), .int .i64 k, .bool bb, .int .i64 n, .string (txt t), .slice pa pl pc]] w fun e w' => e = .returned (.tuple #[]) ∧ St B b T o2 (XA ++ [41]) dp w w' := by
  have hC := fun (w2 : World) (h : St B b T o1 [] (dp + 1) w w2) => h.says [77, 73, 78, 40] (by decide)
  rw [show txt [77, 73, 78, 40] = ⟨#[77, 73, 78, 40]⟩ from rfl] at hC
  have hE := fun (w2 : World) (h : St B b T o2 XA (dp + 1) w w2) => h.says [41] (by decide)
  rw [show txt [41] = ⟨#[41]⟩ from rfl] at hE
  have hb9 : dp + 1 - 1 = dp := by omega
  replace hD : Hid _ := hD
  replace hN : Hid _ := hN
  replace hA : Hid _ := hA
  replace hC : Hid _ := hC
  replace hE : Hid _ := hE
  have hb0 := below_new w (.cells #[.int .i64 24, .slice (some ⟨g, o, none⟩) kn kc, .string (txt nm), .string (txt pr), .int .i64 k, .bool bb, .int .i64 n, .string (txt t), .slice pa pl pc] 29)
  have hlt : Hid _ := hS.ltb
  have hsz : Hid _ := hS.siz
  have hS1 := hS.below hb0
  have hbk1 := heap_alloc_new w (.cells #[.int .i64 24, .slice (some ⟨g, o, none⟩) kn kc, .string (txt nm), .string (txt pr), .int .i64 k, .bool bb, .int .i64 n, .string (txt t), .slice pa pl pc] 29)
  have hK1 : Hid (Kps B b w (w.alloc (.cells #[.int .i64 24, .slice (some ⟨g, o, none⟩) kn kc, .string (txt nm), .string (txt pr), .int .i64 k, .bool bb, .int .i64 n, .string (txt t), .slice pa pl pc] 29))) := Kps.of hb0 hsz.out
  replace hbk1 : Hid _ := hbk1
  replace hS1 : Hid (St B b T true [] dp w (w.alloc (.cells #[.int .i64 24, .slice (some ⟨g, o, none⟩) kn kc, .string (txt nm), .string (txt pr), .int .i64 k, .bool bb, .int .i64 n, .string (txt t), .slice pa pl pc] 29))) := hS1
  go_enter Tryd.func25, Tryd.ntmps25
  go_wp2_with fail
  go_at_call 24
  refine Calls.mono (hD.out _ hS1.out) ?_
  rintro e w2 ⟨rfl, hK, hS2⟩
  have hbk2 := hK.box hbk1.out (by decide) (by have := hlt.out; omega)
  have y0 := box_cell hbk2 0
  have y1 := box_cell hbk2 1
  have y2 := box_cell hbk2 2
  have y3 := box_cell hbk2 3
  have y4 := box_cell hbk2 4
  have y5 := box_cell hbk2 5
  have y6 := box_cell hbk2 6
  have y7 := box_cell hbk2 7
  have y8 := box_cell hbk2 8
  simp only [List.getElem?_toArray, List.getElem?_cons_zero, List.getElem?_cons_succ] at y0 y1 y2 y3 y4 y5 y6 y7 y8
  replace hbk2 : Hid _ := hbk2
  replace hS2 : Hid (St B b T o1 [] (dp + 1) w w2) := hS2
  have hK2 : Hid (Kps B b w w2) := hK1.out.trans hK
  clear hK hK1 hbk1 hS1 hb0
  go_wp2_with fail
  go_at_call 21
  refine Calls.mono (hC.out w2 hS2.out) ?_
  rintro e w3 ⟨rfl, hK, hS3⟩
  have hbk3 := hK.box hbk2.out (by decide) (by have := hlt.out; omega)
  have z0 := box_cell hbk3 0
  have z1 := box_cell hbk3 1
  have z2 := box_cell hbk3 2
  have z3 := box_cell hbk3 3
  have z4 := box_cell hbk3 4
  have z5 := box_cell hbk3 5
  have z6 := box_cell hbk3 6
  have z7 := box_cell hbk3 7
  have z8 := box_cell hbk3 8
  simp only [List.getElem?_toArray, List.getElem?_cons_zero, List.getElem?_cons_succ] at z0 z1 z2 z3 z4 z5 z6 z7 z8
  replace hbk3 : Hid _ := hbk3
  replace hS3 : Hid (St B b T o1 [77, 73, 78, 40] (dp + 1) w w3) := hS3
  have hK3 : Hid (Kps B b w w3) := hK2.out.trans hK
  clear hK
  obtain ⟨q0, q1, q2, q3, q4, q5, q6, q7, q8⟩ := hN.out w3 hK3.out
  go_wp2_with fail
  go_at_call 9
  refine Calls.mono (hA.out w3 hS3.out) ?_
  rintro e w4 ⟨rfl, hK, hS4⟩
  replace hS4 : Hid (St B b T o2 XA (dp + 1) w w4) := hS4
  have hK4 : Hid (Kps B b w w4) := hK3.out.trans hK
  clear hK
  go_wp2_with fail
  go_at_call 21
  refine Calls.mono (hE.out w4 hS4.out) ?_
  rintro e w5 ⟨rfl, hK, hS5⟩
  replace hS5 : Hid (St B b T o2 (XA ++ [41]) (dp + 1) w w5) := hS5
  have hK5 : Hid (Kps B b w w5) := hK4.out.trans hK
  clear hK
  have g1 := hS5.out.deep_cell.1
  have g2 := hS5.out.deep_cell.2
  have hF := hS5.out.deep dp
  replace hF : Hid _ := hF
  go_wp2_with fail
  exact bodyPost_end (results_none rfl _ _ _) rfl ⟨rfl, hF.out⟩
set_option maxRecDepth 100000 in
set_option maxHeartbeats 2000000 in
theorem call_max {o1 o2 : Bool} {XA : List UInt8} (cop : Int) (cnm cpr : List UInt8) (ck : Int) (cb : Bool) (cn : Int) (ct : List UInt8) (ka : Option Addr) (kl kq : Nat) (ca : Option Addr) (cl cc : Nat) {B b : Nat} {T : List UInt8} {dp : Int} (nm pr : List UInt8) (k : Int) (bb : Bool) (n : Int) (t : List UInt8) (g o kn kc : Nat) (pa : Option Addr) (pl pc : Nat) (w : World)
    (hS : St B b T true [] dp w w) (hkn : 0 < kn) (h0 : 0 ≤ dp) (h1 : dp ≤ 1000)
    (hN : ∀ w2, Kps B b w w2 → Nine w2 g o cop cnm cpr ck cb cn ct (.slice ka kl kq) (.slice ca cl cc))
    (hD : ∀ w2, St B b T true [] dp w w2 → Calls Tryd.prog 24 #[.pointer (some ⟨b, 0, none⟩)] w2 fun e w' => e = .returned (.tuple #[]) ∧ Kps B b w2 w' ∧ St B b T o1 [] (dp + 1) w w')
    (hA : ∀ w2, St B b T o1 [77, 65, 88, 40] (dp + 1) w w2 → Calls Tryd.prog 9 #[.pointer (some ⟨b, 0, none⟩), .agg #[.int .i64 cop, .slice ka kl kq, .string (txt cnm), .string (txt cpr), .int .i64 ck, .bool cb, .int .i64 cn, .string (txt ct), .slice ca cl cc]] w2 fun e w' => e = .returned (.tuple #[]) ∧ Kps B b w2 w' ∧ St B b T o2 XA (dp + 1) w w') :
    Calls Tryd.prog 25 #[.pointer (some ⟨b, 0, none⟩), .agg #[.int .i64 25, .slice (some ⟨g, o, none⟩) kn kc, .string (txt nm), .string (txt pr), .int .i64 k, .bool bb, .int .i64 n, .string (txt t), .slice pa pl pc]] w fun e w' => e = .returned (.tuple #[]) ∧ St B b T o2 (XA ++ [41]) dp w w' := by
  have hC := fun (w2 : World) (h : St B b T o1 [] (dp + 1) w w2) => h.says [77, 65, 88, 40] (by decide)
  rw [show txt [77, 65, 88, 40] = ⟨#[77, 65, 88, 40]⟩ from rfl] at hC
  have hE := fun (w2 : World) (h : St B b T o2 XA (dp + 1) w w2) => h.says [41] (by decide)
  rw [show txt [41] = ⟨#[41]⟩ from rfl] at hE
  have hb9 : dp + 1 - 1 = dp := by omega
  replace hD : Hid _ := hD
  replace hN : Hid _ := hN
  replace hA : Hid _ := hA
  replace hC : Hid _ := hC
  replace hE : Hid _ := hE
  have hb0 := below_new w (.cells #[.int .i64 25, .slice (some ⟨g, o, none⟩) kn kc, .string (txt nm), .string (txt pr), .int .i64 k, .bool bb, .int .i64 n, .string (txt t), .slice pa pl pc] 29)
  have hlt : Hid _ := hS.ltb
  have hsz : Hid _ := hS.siz
  have hS1 := hS.below hb0
  have hbk1 := heap_alloc_new w (.cells #[.int .i64 25, .slice (some ⟨g, o, none⟩) kn kc, .string (txt nm), .string (txt pr), .int .i64 k, .bool bb, .int .i64 n, .string (txt t), .slice pa pl pc] 29)
  have hK1 : Hid (Kps B b w (w.alloc (.cells #[.int .i64 25, .slice (some ⟨g, o, none⟩) kn kc, .string (txt nm), .string (txt pr), .int .i64 k, .bool bb, .int .i64 n, .string (txt t), .slice pa pl pc] 29))) := Kps.of hb0 hsz.out
  replace hbk1 : Hid _ := hbk1
  replace hS1 : Hid (St B b T true [] dp w (w.alloc (.cells #[.int .i64 25, .slice (some ⟨g, o, none⟩) kn kc, .string (txt nm), .string (txt pr), .int .i64 k, .bool bb, .int .i64 n, .string (txt t), .slice pa pl pc] 29))) := hS1
  go_enter Tryd.func25, Tryd.ntmps25
  go_wp2_with fail
  go_at_call 24
  refine Calls.mono (hD.out _ hS1.out) ?_
  rintro e w2 ⟨rfl, hK, hS2⟩
  have hbk2 := hK.box hbk1.out (by decide) (by have := hlt.out; omega)
  have y0 := box_cell hbk2 0
  have y1 := box_cell hbk2 1
  have y2 := box_cell hbk2 2
  have y3 := box_cell hbk2 3
  have y4 := box_cell hbk2 4
  have y5 := box_cell hbk2 5
  have y6 := box_cell hbk2 6
  have y7 := box_cell hbk2 7
  have y8 := box_cell hbk2 8
  simp only [List.getElem?_toArray, List.getElem?_cons_zero, List.getElem?_cons_succ] at y0 y1 y2 y3 y4 y5 y6 y7 y8
  replace hbk2 : Hid _ := hbk2
  replace hS2 : Hid (St B b T o1 [] (dp + 1) w w2) := hS2
  have hK2 : Hid (Kps B b w w2) := hK1.out.trans hK
  clear hK hK1 hbk1 hS1 hb0
  go_wp2_with fail
  go_at_call 21
  refine Calls.mono (hC.out w2 hS2.out) ?_
  rintro e w3 ⟨rfl, hK, hS3⟩
  have hbk3 := hK.box hbk2.out (by decide) (by have := hlt.out; omega)
  have z0 := box_cell hbk3 0
  have z1 := box_cell hbk3 1
  have z2 := box_cell hbk3 2
  have z3 := box_cell hbk3 3
  have z4 := box_cell hbk3 4
  have z5 := box_cell hbk3 5
  have z6 := box_cell hbk3 6
  have z7 := box_cell hbk3 7
  have z8 := box_cell hbk3 8
  simp only [List.getElem?_toArray, List.getElem?_cons_zero, List.getElem?_cons_succ] at z0 z1 z2 z3 z4 z5 z6 z7 z8
  replace hbk3 : Hid _ := hbk3
  replace hS3 : Hid (St B b T o1 [77, 65, 88, 40] (dp + 1) w w3) := hS3
  have hK3 : Hid (Kps B b w w3) := hK2.out.trans hK
  clear hK
  obtain ⟨q0, q1, q2, q3, q4, q5, q6, q7, q8⟩ := hN.out w3 hK3.out
  go_wp2_with fail
  go_at_call 9
  refine Calls.mono (hA.out w3 hS3.out) ?_
  rintro e w4 ⟨rfl, hK, hS4⟩
  replace hS4 : Hid (St B b T o2 XA (dp + 1) w w4) := hS4
  have hK4 : Hid (Kps B b w w4) := hK3.out.trans hK
  clear hK
  go_wp2_with fail
  go_at_call 21
  refine Calls.mono (hE.out w4 hS4.out) ?_
  rintro e w5 ⟨rfl, hK, hS5⟩
  replace hS5 : Hid (St B b T o2 (XA ++ [41]) (dp + 1) w w5) := hS5
  have hK5 : Hid (Kps B b w w5) := hK4.out.trans hK
  clear hK
  have g1 := hS5.out.deep_cell.1
  have g2 := hS5.out.deep_cell.2
  have hF := hS5.out.deep dp
  replace hF : Hid _ := hF
  go_wp2_with fail
  exact bodyPost_end (results_none rfl _ _ _) rfl ⟨rfl, hF.out⟩
set_option maxRecDepth 100000 in
set_option maxHeartbeats 2000000 in
theorem call_star {o1 : Bool} {B b : Nat} {T : List UInt8} {dp : Int} (nm pr : List UInt8) (k : Int) (bb : Bool) (n : Int) (t : List UInt8) (kp : Option Addr) (kn kc : Nat) (pa : Option Addr) (pl pc : Nat) (w : World)
    (hS : St B b T true [] dp w w) (h0 : 0 ≤ dp) (h1 : dp ≤ 1000)
    (hD : ∀ w2, St B b T true [] dp w w2 → Calls Tryd.prog 24 #[.pointer (some ⟨b, 0, none⟩)] w2 fun e w' => e = .returned (.tuple #[]) ∧ Kps B b w2 w' ∧ St B b T o1 [] (dp + 1) w w') :
    Calls Tryd.prog 25 #[.pointer (some ⟨b, 0, none⟩), .agg #[.int .i64 26, .slice kp kn kc, .string (txt nm), .string (txt pr), .int .i64 k, .bool bb, .int .i64 n, .string (txt t), .slice pa pl pc]] w fun e w' => e = .returned (.tuple #[]) ∧ St B b T o1 ([67, 79, 85, 78, 84, 40] ++ [42] ++ [41]) dp w w' := by
  have hC := fun (w2 : World) (h : St B b T o1 [] (dp + 1) w w2) => h.says [67, 79, 85, 78, 84, 40] (by decide)
  rw [show txt [67, 79, 85, 78, 84, 40] = ⟨#[67, 79, 85, 78, 84, 40]⟩ from rfl] at hC
  have hA := fun (w2 : World) (h : St B b T o1 [67, 79, 85, 78, 84, 40] (dp + 1) w w2) => h.says [42] (by decide)
  rw [show txt [42] = ⟨#[42]⟩ from rfl] at hA
  have hE := fun (w2 : World) (h : St B b T o1 ([67, 79, 85, 78, 84, 40] ++ [42]) (dp + 1) w w2) => h.says [41] (by decide)
  rw [show txt [41] = ⟨#[41]⟩ from rfl] at hE
  have hb9 : dp + 1 - 1 = dp := by omega
  replace hD : Hid _ := hD
  replace hA : Hid _ := hA
  replace hC : Hid _ := hC
  replace hE : Hid _ := hE
  have hb0 := below_new w (.cells #[.int .i64 26, .slice kp kn kc, .string (txt nm), .string (txt pr), .int .i64 k, .bool bb, .int .i64 n, .string (txt t), .slice pa pl pc] 29)
  have hlt : Hid _ := hS.ltb
  have hsz : Hid _ := hS.siz
  have hS1 := hS.below hb0
  have hbk1 := heap_alloc_new w (.cells #[.int .i64 26, .slice kp kn kc, .string (txt nm), .string (txt pr), .int .i64 k, .bool bb, .int .i64 n, .string (txt t), .slice pa pl pc] 29)
  have hK1 : Hid (Kps B b w (w.alloc (.cells #[.int .i64 26, .slice kp kn kc, .string (txt nm), .string (txt pr), .int .i64 k, .bool bb, .int .i64 n, .string (txt t), .slice pa pl pc] 29))) := Kps.of hb0 hsz.out
  replace hbk1 : Hid _ := hbk1
  replace hS1 : Hid (St B b T true [] dp w (w.alloc (.cells #[.int .i64 26, .slice kp kn kc, .string (txt nm), .string (txt pr), .int .i64 k, .bool bb, .int .i64 n, .string (txt t), .slice pa pl pc] 29))) := hS1
  go_enter Tryd.func25, Tryd.ntmps25
  go_wp2_with fail
  go_at_call 24
  refine Calls.mono (hD.out _ hS1.out) ?_
  rintro e w2 ⟨rfl, hK, hS2⟩
  have hbk2 := hK.box hbk1.out (by decide) (by have := hlt.out; omega)
  have y0 := box_cell hbk2 0
  have y1 := box_cell hbk2 1
  have y2 := box_cell hbk2 2
  have y3 := box_cell hbk2 3
  have y4 := box_cell hbk2 4
  have y5 := box_cell hbk2 5
  have y6 := box_cell hbk2 6
  have y7 := box_cell hbk2 7
  have y8 := box_cell hbk2 8
  simp only [List.getElem?_toArray, List.getElem?_cons_zero, List.getElem?_cons_succ] at y0 y1 y2 y3 y4 y5 y6 y7 y8
  replace hbk2 : Hid _ := hbk2
  replace hS2 : Hid (St B b T o1 [] (dp + 1) w w2) := hS2
  have hK2 : Hid (Kps B b w w2) := hK1.out.trans hK
  clear hK hK1 hbk1 hS1 hb0
  go_wp2_with fail
  go_at_call 21
  refine Calls.mono (hC.out w2 hS2.out) ?_
  rintro e w3 ⟨rfl, hK, hS3⟩
  have hbk3 := hK.box hbk2.out (by decide) (by have := hlt.out; omega)
  have z0 := box_cell hbk3 0
  have z1 := box_cell hbk3 1
  have z2 := box_cell hbk3 2
  have z3 := box_cell hbk3 3
  have z4 := box_cell hbk3 4
  have z5 := box_cell hbk3 5
  have z6 := box_cell hbk3 6
  have z7 := box_cell hbk3 7
  have z8 := box_cell hbk3 8
  simp only [List.getElem?_toArray, List.getElem?_cons_zero, List.getElem?_cons_succ] at z0 z1 z2 z3 z4 z5 z6 z7 z8
  replace hbk3 : Hid _ := hbk3
  replace hS3 : Hid (St B b T o1 [67, 79, 85, 78, 84, 40] (dp + 1) w w3) := hS3
  have hK3 : Hid (Kps B b w w3) := hK2.out.trans hK
  clear hK
  go_wp2_with fail
  go_at_call 21
  refine Calls.mono (hA.out w3 hS3.out) ?_
  rintro e w4 ⟨rfl, hK, hS4⟩
  replace hS4 : Hid (St B b T o1 ([67, 79, 85, 78, 84, 40] ++ [42]) (dp + 1) w w4) := hS4
  have hK4 : Hid (Kps B b w w4) := hK3.out.trans hK
  clear hK
  go_wp2_with fail
  go_at_call 21
  refine Calls.mono (hE.out w4 hS4.out) ?_
  rintro e w5 ⟨rfl, hK, hS5⟩
  replace hS5 : Hid (St B b T o1 ([67, 79, 85, 78, 84, 40] ++ [42] ++ [41]) (dp + 1) w w5) := hS5
  have hK5 : Hid (Kps B b w w5) := hK4.out.trans hK
  clear hK
  have g1 := hS5.out.deep_cell.1
  have g2 := hS5.out.deep_cell.2
  have hF := hS5.out.deep dp
  replace hF : Hid _ := hF
  go_wp2_with fail
  exact bodyPost_end (results_none rfl _ _ _) rfl ⟨rfl, hF.out⟩
end Go.Proofs.YtkcnpbckmdgfnaaDoor
