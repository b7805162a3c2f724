/-
  The law of expressions: the walk.
-/
import Derived.Test.YtkcnpbckmdgfnaaDoorRpe
import Derived.Test.YtkcnpbckmdgfnaaDoorHda
namespace Go.Proofs.YtkcnpbckmdgfnaaDoor
open Go.ChangeShapes Go.WideShapes Go.ChangeAt Go.RowKit
set_option linter.unusedSimpArgs false
set_option linter.unusedVariables false

set_option maxRecDepth 100000 in
set_option maxHeartbeats 2000000 in
theorem Exprs_walk (x : Tr) (kv pv : Value) (w : World) (hT : Tabs w) (hF : FormsAt w) (hfine : fineT x) (hsh : Short x) (hTA : TAt w x kv) (hPA : PhAt w x.ph pv) :
    Calls Tryd.prog 3 #[x.val kv pv] w fun e w' => e = .returned (.bool true) ∧ Below w.heap.size w w' := by
  have hP := fun (w1 : World) (hb : Below w.heap.size w w1) => print_any x kv pv w1 (hT.below hb) (hF.below hb) hfine (TAt.below hb x kv hTA) (PhAt.below hPA hb)
  have hQ := fun (w1 : World) (hb : Below w.heap.size w w1) => rprint_any x kv pv w1 (hT.below hb) hfine hsh (TAt.below hb x kv hTA) (PhAt.below hPA hb)
  obtain ⟨op, nm, pr, k, bb, n, t, ph, ks⟩ := x
  have hTA0 := hTA
  rw [TAt] at hTA0
  obtain ⟨kp, kc, rfl, _⟩ := hTA0
  have hPA0 := hPA
  obtain ⟨pa, pc, rfl, _⟩ := hPA0
  have eph : (Tr.mk op nm pr k bb n t ph ks).ph = ph := rfl
  rw [eph] at hP hQ ⊢
  have hb0 := below_new w (.cells #[.int .i64 op, .slice kp ks.length kc, .string (txt nm), .string (txt pr), .int .i64 k, .bool bb, .int .i64 n, .string (txt t), .slice pa ph.length pc] 29)
  have hH := fun (_ : Unit) => head_any _ (hT.below hb0) (hF.below hb0)
  have n1 := heap_alloc_new w (.cells #[.int .i64 op, .slice kp ks.length kc, .string (txt nm), .string (txt pr), .int .i64 k, .bool bb, .int .i64 n, .string (txt t), .slice pa ph.length pc] 29)
  unfold Tr.val at hP hQ ⊢
  dsimp only at hP hQ ⊢
  generalize txt (prT (.mk op nm pr k bb n t ph ks)).1 = AN at *
  generalize (prT (.mk op nm pr k bb n t ph ks)).2 = AE at *
  replace hH : Hid _ := hH
  replace hP : Hid _ := hP
  replace hQ : Hid _ := hQ
  replace hb0 : Hid _ := hb0
  replace n1 : Hid _ := n1
  clear hT hF hfine hsh hTA hPA
  go_enter Tryd.func3, Tryd.ntmps3
  go_wp2_with fail
  go_at_call 4
  refine Calls.mono (hH.out ()) ?_
  rintro e w1 ⟨rfl, hb1⟩
  have hk1 := (hb1.block w.heap.size (by simp)).trans n1.out
  have x0 := box_cell hk1 0
  have x1 := box_cell hk1 1
  have x2 := box_cell hk1 2
  have x3 := box_cell hk1 3
  have x4 := box_cell hk1 4
  have x5 := box_cell hk1 5
  have x6 := box_cell hk1 6
  have x7 := box_cell hk1 7
  have x8 := box_cell hk1 8
  simp only [List.getElem?_toArray, List.getElem?_cons_zero, List.getElem?_cons_succ] at x0 x1 x2 x3 x4 x5 x6 x7 x8
  have hbA := below_on hb0.out hb1
  replace hbA : Hid (Below w.heap.size w w1) := hbA
  replace hk1 : Hid _ := hk1
  go_wp2_with fail
  go_at_call 5
  refine Calls.mono (hP.out w1 hbA.out) ?_
  rintro e w2 ⟨rfl, hb2⟩
  have hk2 := (hb2.block w.heap.size (Array.getElem?_eq_some_iff.1 hk1.out).1).trans hk1.out
  have y0 := box_cell hk2 0
  have y1 := box_cell hk2 1
  have y2 := box_cell hk2 2
  have y3 := box_cell hk2 3
  have y4 := box_cell hk2 4
  have y5 := box_cell hk2 5
  have y6 := box_cell hk2 6
  have y7 := box_cell hk2 7
  have y8 := box_cell hk2 8
  simp only [List.getElem?_toArray, List.getElem?_cons_zero, List.getElem?_cons_succ] at y0 y1 y2 y3 y4 y5 y6 y7 y8
  have hbB : Hid (Below w.heap.size w w2) := below_on hbA.out hb2
  go_wp2_with fail
  go_at_call 6
  refine Calls.mono (hQ.out w2 hbB.out) ?_
  rintro e w3 ⟨rfl, hb3⟩
  go_wp2_with fail
  go_returns
  exact ⟨rfl, below_on hbB.out hb3⟩
end Go.Proofs.YtkcnpbckmdgfnaaDoor
