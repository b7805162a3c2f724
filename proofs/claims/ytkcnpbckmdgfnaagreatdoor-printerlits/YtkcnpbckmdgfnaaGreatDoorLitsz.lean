/-
  The law of literals: the walk, way by way.
  The law of literals: the walk.
  The law of literals. PrinterLits returns true for whatever value it is handed, of any kind and with whatever fields, and leaves what it was handed as it was; no conditions.
-/
import Derived.Test.YtkcnpbckmdgfnaaGreatDoorRez
import Derived.Test.YtkcnpbckmdgfnaaGreatDoorHda
import Derived.Test.YtkcnpbckmdgfnaaGreatDoorSlv
import Derived.Test.YtkcnpbckmdgfnaaGreatDoorLwd
import Derived.Test.YtkcnpbckmdgfnaaGreatDoorOpt
namespace Go.Proofs.YtkcnpbckmdgfnaaGreatDoor
open Go.ChangeShapes Go.WideShapes Go.ChangeAt Go.RowKit
set_option linter.unusedSimpArgs false
set_option linter.unusedVariables false

set_option maxRecDepth 100000 in
set_option maxHeartbeats 2000000 in
theorem lits_no83 (k : Int) (b : Bool) (n : Int) (t : ByteArray) (pa : Option Addr) (m pc : Nat) (X Y : ByteArray) (w : World) (hT : Tabs w) (hF : FormsAt w)
    (hP : ∀ w1, Below w.heap.size w w1 → Calls Tryz.prog 13 #[.agg #[.int .i64 1, .slice none 0 0, .string ⟨#[]⟩, .string ⟨#[]⟩, .int .i64 k, .bool b, .int .i64 n, .string t, .slice pa m pc]] w1 fun e w' => e = .returned (.tuple #[.string X, .int .i64 83]) ∧ Below w1.heap.size w1 w')
    (hQ : ∀ w1, Below w.heap.size w w1 → Calls Tryz.prog 16 #[.agg #[.int .i64 1, .slice none 0 0, .string ⟨#[]⟩, .string ⟨#[]⟩, .int .i64 k, .bool b, .int .i64 n, .string t, .slice pa m pc]] w1 fun e w' => e = .returned (.tuple #[.string Y, .int .i64 83]) ∧ Below w1.heap.size w1 w') :
    Calls Tryz.prog 6 #[.agg #[.int .i64 k, .bool b, .int .i64 n, .string t, .slice pa m pc]] w fun e w' => e = .returned (.bool true) ∧ Below w.heap.size w w' := by
  have hb0 := below_new w (.cells #[.int .i64 k, .bool b, .int .i64 n, .string t, .slice pa m pc] 37)
  have hH := fun (_ : Unit) => head_any _ (hT.below hb0) (hF.below hb0)
  have n1 := heap_alloc_new w (.cells #[.int .i64 k, .bool b, .int .i64 n, .string t, .slice pa m pc] 37)
  replace hH : Hid _ := hH
  replace hP : Hid _ := hP
  replace hQ : Hid _ := hQ
  replace hb0 : Hid _ := hb0
  replace n1 : Hid _ := n1
  clear hT hF
  go_enter Tryz.func6, Tryz.ntmps6
  go_wp2_with fail
  go_at_call 8
  refine Calls.mono (hH.out ()) ?_
  rintro e w1 ⟨rfl, hb1⟩
  have hk1 := (hb1.block w.heap.size (by simp)).trans n1.out
  have x0 : w1.cell? ⟨w.heap.size, 0, none⟩ = some (.int .i64 k) := box_cell hk1 0; have x1 : w1.cell? ⟨w.heap.size, 1, none⟩ = some (.bool b) := box_cell hk1 1; have x2 : w1.cell? ⟨w.heap.size, 2, none⟩ = some (.int .i64 n) := box_cell hk1 2; have x3 : w1.cell? ⟨w.heap.size, 3, none⟩ = some (.string t) := box_cell hk1 3; have x4 : w1.cell? ⟨w.heap.size, 4, none⟩ = some (.slice pa m pc) := box_cell hk1 4; 
  have hbA := below_on hb0.out hb1
  replace hbA : Hid (Below w.heap.size w w1) := hbA
  replace hk1 : Hid _ := hk1
  go_wp2_with fail
  go_at_call 13
  refine Calls.mono (hP.out w1 hbA.out) ?_
  rintro e w2 ⟨rfl, hb2⟩
  have hk2 := (hb2.block w.heap.size (Array.getElem?_eq_some_iff.1 hk1.out).1).trans hk1.out
  have y0 : w2.cell? ⟨w.heap.size, 0, none⟩ = some (.int .i64 k) := box_cell hk2 0; have y1 : w2.cell? ⟨w.heap.size, 1, none⟩ = some (.bool b) := box_cell hk2 1; have y2 : w2.cell? ⟨w.heap.size, 2, none⟩ = some (.int .i64 n) := box_cell hk2 2; have y3 : w2.cell? ⟨w.heap.size, 3, none⟩ = some (.string t) := box_cell hk2 3; have y4 : w2.cell? ⟨w.heap.size, 4, none⟩ = some (.slice pa m pc) := box_cell hk2 4; 
  have hbB : Hid (Below w.heap.size w w2) := below_on hbA.out hb2
  go_wp2_with fail
  go_at_call 16
  refine Calls.mono (hQ.out w2 hbB.out) ?_
  rintro e w3 ⟨rfl, hb3⟩
  go_wp2_with fail
  go_returns
  exact ⟨rfl, below_on hbB.out hb3⟩

set_option maxRecDepth 100000 in
set_option maxHeartbeats 2000000 in
theorem lits_no2 (k : Int) (b : Bool) (n : Int) (t : ByteArray) (pa : Option Addr) (m pc : Nat) (X Y : ByteArray) (w : World) (hT : Tabs w) (hF : FormsAt w)
    (hP : ∀ w1, Below w.heap.size w w1 → Calls Tryz.prog 13 #[.agg #[.int .i64 1, .slice none 0 0, .string ⟨#[]⟩, .string ⟨#[]⟩, .int .i64 k, .bool b, .int .i64 n, .string t, .slice pa m pc]] w1 fun e w' => e = .returned (.tuple #[.string X, .int .i64 2]) ∧ Below w1.heap.size w1 w')
    (hQ : ∀ w1, Below w.heap.size w w1 → Calls Tryz.prog 16 #[.agg #[.int .i64 1, .slice none 0 0, .string ⟨#[]⟩, .string ⟨#[]⟩, .int .i64 k, .bool b, .int .i64 n, .string t, .slice pa m pc]] w1 fun e w' => e = .returned (.tuple #[.string Y, .int .i64 2]) ∧ Below w1.heap.size w1 w') :
    Calls Tryz.prog 6 #[.agg #[.int .i64 k, .bool b, .int .i64 n, .string t, .slice pa m pc]] w fun e w' => e = .returned (.bool true) ∧ Below w.heap.size w w' := by
  have hb0 := below_new w (.cells #[.int .i64 k, .bool b, .int .i64 n, .string t, .slice pa m pc] 37)
  have hH := fun (_ : Unit) => head_any _ (hT.below hb0) (hF.below hb0)
  have n1 := heap_alloc_new w (.cells #[.int .i64 k, .bool b, .int .i64 n, .string t, .slice pa m pc] 37)
  replace hH : Hid _ := hH
  replace hP : Hid _ := hP
  replace hQ : Hid _ := hQ
  replace hb0 : Hid _ := hb0
  replace n1 : Hid _ := n1
  clear hT hF
  go_enter Tryz.func6, Tryz.ntmps6
  go_wp2_with fail
  go_at_call 8
  refine Calls.mono (hH.out ()) ?_
  rintro e w1 ⟨rfl, hb1⟩
  have hk1 := (hb1.block w.heap.size (by simp)).trans n1.out
  have x0 : w1.cell? ⟨w.heap.size, 0, none⟩ = some (.int .i64 k) := box_cell hk1 0; have x1 : w1.cell? ⟨w.heap.size, 1, none⟩ = some (.bool b) := box_cell hk1 1; have x2 : w1.cell? ⟨w.heap.size, 2, none⟩ = some (.int .i64 n) := box_cell hk1 2; have x3 : w1.cell? ⟨w.heap.size, 3, none⟩ = some (.string t) := box_cell hk1 3; have x4 : w1.cell? ⟨w.heap.size, 4, none⟩ = some (.slice pa m pc) := box_cell hk1 4; 
  have hbA := below_on hb0.out hb1
  replace hbA : Hid (Below w.heap.size w w1) := hbA
  replace hk1 : Hid _ := hk1
  go_wp2_with fail
  go_at_call 13
  refine Calls.mono (hP.out w1 hbA.out) ?_
  rintro e w2 ⟨rfl, hb2⟩
  have hk2 := (hb2.block w.heap.size (Array.getElem?_eq_some_iff.1 hk1.out).1).trans hk1.out
  have y0 : w2.cell? ⟨w.heap.size, 0, none⟩ = some (.int .i64 k) := box_cell hk2 0; have y1 : w2.cell? ⟨w.heap.size, 1, none⟩ = some (.bool b) := box_cell hk2 1; have y2 : w2.cell? ⟨w.heap.size, 2, none⟩ = some (.int .i64 n) := box_cell hk2 2; have y3 : w2.cell? ⟨w.heap.size, 3, none⟩ = some (.string t) := box_cell hk2 3; have y4 : w2.cell? ⟨w.heap.size, 4, none⟩ = some (.slice pa m pc) := box_cell hk2 4; 
  have hbB : Hid (Below w.heap.size w w2) := below_on hbA.out hb2
  go_wp2_with fail
  go_at_call 16
  refine Calls.mono (hQ.out w2 hbB.out) ?_
  rintro e w3 ⟨rfl, hb3⟩
  go_wp2_with fail
  go_returns
  exact ⟨rfl, below_on hbB.out hb3⟩

set_option maxRecDepth 100000 in
set_option maxHeartbeats 4000000 in
theorem lits_yes (k : Int) (b : Bool) (n : Int) (t : ByteArray) (pa : Option Addr) (pc : Nat) (X : ByteArray) (w : World) (hT : Tabs w) (hF : FormsAt w)
    (hP : ∀ w1, Below w.heap.size w w1 → Calls Tryz.prog 13 #[.agg #[.int .i64 1, .slice none 0 0, .string ⟨#[]⟩, .string ⟨#[]⟩, .int .i64 k, .bool b, .int .i64 n, .string t, .slice pa 0 pc]] w1 fun e w' => e = .returned (.tuple #[.string X, .int .i64 0]) ∧ Below w1.heap.size w1 w')
    (hQ : ∀ w1, Below w.heap.size w w1 → Calls Tryz.prog 14 #[.string X] w1 fun e w' => e = .returned (.tuple #[.agg #[.int .i64 1, .slice none 0 0, .string ⟨#[]⟩, .string ⟨#[]⟩, .int .i64 k, .bool b, .int .i64 n, .string t, .slice none 0 0], .int .i64 0, .int .i64 0]) ∧ Below w1.heap.size w1 w') :
    Calls Tryz.prog 6 #[.agg #[.int .i64 k, .bool b, .int .i64 n, .string t, .slice pa 0 pc]] w fun e w' => e = .returned (.bool true) ∧ Below w.heap.size w w' := by
  have hb0 := below_new w (.cells #[.int .i64 k, .bool b, .int .i64 n, .string t, .slice pa 0 pc] 37)
  have hH := fun (_ : Unit) => head_any _ (hT.below hb0) (hF.below hb0)
  have n1 := heap_alloc_new w (.cells #[.int .i64 k, .bool b, .int .i64 n, .string t, .slice pa 0 pc] 37)
  have hS := fun (w1 : World) => sameE_leaf 1 ⟨#[]⟩ ⟨#[]⟩ k b n t pa pc w1
  replace hH : Hid _ := hH
  replace hP : Hid _ := hP
  replace hQ : Hid _ := hQ
  replace hS : Hid _ := hS
  replace hb0 : Hid _ := hb0
  replace n1 : Hid _ := n1
  clear hT hF
  go_enter Tryz.func6, Tryz.ntmps6
  go_wp2_with fail
  go_at_call 8
  refine Calls.mono (hH.out ()) ?_
  rintro e w1 ⟨rfl, hb1⟩
  have hk1 := (hb1.block w.heap.size (by simp)).trans n1.out
  have x0 : w1.cell? ⟨w.heap.size, 0, none⟩ = some (.int .i64 k) := box_cell hk1 0; have x1 : w1.cell? ⟨w.heap.size, 1, none⟩ = some (.bool b) := box_cell hk1 1; have x2 : w1.cell? ⟨w.heap.size, 2, none⟩ = some (.int .i64 n) := box_cell hk1 2; have x3 : w1.cell? ⟨w.heap.size, 3, none⟩ = some (.string t) := box_cell hk1 3; have x4 : w1.cell? ⟨w.heap.size, 4, none⟩ = some (.slice pa 0 pc) := box_cell hk1 4; 
  have hbA := below_on hb0.out hb1
  replace hbA : Hid (Below w.heap.size w w1) := hbA
  replace hk1 : Hid _ := hk1
  go_wp2_with fail
  go_at_call 13
  refine Calls.mono (hP.out w1 hbA.out) ?_
  rintro e w2 ⟨rfl, hb2⟩
  have hk2 := (hb2.block w.heap.size (Array.getElem?_eq_some_iff.1 hk1.out).1).trans hk1.out
  have hbB : Hid (Below w.heap.size w w2) := below_on hbA.out hb2
  replace hk2 : Hid _ := hk2
  clear x0 x1 x2 x3 x4
  go_wp2_with fail
  go_at_call 14
  refine Calls.mono (hQ.out w2 hbB.out) ?_
  rintro e w3 ⟨rfl, hb3⟩
  have hk3 := (hb3.block w.heap.size (Array.getElem?_eq_some_iff.1 hk2.out).1).trans hk2.out
  have hbC : Hid (Below w.heap.size w w3) := below_on hbB.out hb3
  replace hk3 : Hid _ := hk3
  go_upto_region 7 with fail
  have bZ := below_new w3 (.cells #[.int .i64 1, .slice none 0 0, .string ⟨#[]⟩, .string ⟨#[]⟩, .int .i64 k, .bool b, .int .i64 n, .string t, .slice none 0 0] 39)
  have hk4 := (bZ.block w.heap.size (Array.getElem?_eq_some_iff.1 hk3.out).1).trans hk3.out
  have nZ := heap_alloc_new w3 (.cells #[.int .i64 1, .slice none 0 0, .string ⟨#[]⟩, .string ⟨#[]⟩, .int .i64 k, .bool b, .int .i64 n, .string t, .slice none 0 0] 39)
  have hbD := below_on hbC.out bZ
  generalize (w3.alloc (.cells #[.int .i64 1, .slice none 0 0, .string ⟨#[]⟩, .string ⟨#[]⟩, .int .i64 k, .bool b, .int .i64 n, .string t, .slice none 0 0] 39)) = W4 at *
  generalize w3.heap.size = ZZ at *
  have y0 : W4.cell? ⟨w.heap.size, 0, none⟩ = some (.int .i64 k) := box_cell hk4 0; have y1 : W4.cell? ⟨w.heap.size, 1, none⟩ = some (.bool b) := box_cell hk4 1; have y2 : W4.cell? ⟨w.heap.size, 2, none⟩ = some (.int .i64 n) := box_cell hk4 2; have y3 : W4.cell? ⟨w.heap.size, 3, none⟩ = some (.string t) := box_cell hk4 3; have y4 : W4.cell? ⟨w.heap.size, 4, none⟩ = some (.slice pa 0 pc) := box_cell hk4 4; 
  have z0 : W4.cell? ⟨ZZ, 0, none⟩ = some (.int .i64 1) := box_cell nZ 0; have z1 : W4.cell? ⟨ZZ, 1, none⟩ = some (.slice none 0 0) := box_cell nZ 1; have z2 : W4.cell? ⟨ZZ, 2, none⟩ = some (.string ⟨#[]⟩) := box_cell nZ 2; have z3 : W4.cell? ⟨ZZ, 3, none⟩ = some (.string ⟨#[]⟩) := box_cell nZ 3; have z4 : W4.cell? ⟨ZZ, 4, none⟩ = some (.int .i64 k) := box_cell nZ 4; have z5 : W4.cell? ⟨ZZ, 5, none⟩ = some (.bool b) := box_cell nZ 5; have z6 : W4.cell? ⟨ZZ, 6, none⟩ = some (.int .i64 n) := box_cell nZ 6; have z7 : W4.cell? ⟨ZZ, 7, none⟩ = some (.string t) := box_cell nZ 7; have z8 : W4.cell? ⟨ZZ, 8, none⟩ = some (.slice none 0 0) := box_cell nZ 8; 
  replace hbD : Hid _ := hbD
  clear hk4 nZ bZ hk1 hk2 hk3 hb1 hb2 hb3 hP hQ hH
  go_wp2_with fail
  go_at_call 15
  refine Calls.mono (hS.out W4) ?_
  rintro e w5 ⟨rfl, hb5⟩
  go_wp2_with fail
  go_returns
  exact ⟨rfl, below_on hbD.out hb5⟩
end Go.Proofs.YtkcnpbckmdgfnaaGreatDoor
namespace Go.Proofs.YtkcnpbckmdgfnaaGreatDoor
open Go.ChangeShapes Go.WideShapes Go.ChangeAt Go.RowKit
set_option linter.unusedSimpArgs false
set_option linter.unusedVariables false

theorem lit_prT (k : Int) (b : Bool) (n : Int) (t : List UInt8) (ph : List Int) :
    prT (.mk 1 [] [] k b n t ph []) = if litB k b n t ph then (if (litT k b n t).length ≤ 4096 then (litT k b n t, 0) else ([], 2)) else ([], 83) := by
  have h1 : okT 1 0 (.mk 1 [] [] k b n t ph []) = litB k b n t ph := by
    rw [okT, okK]
    unfold selfB fldB
    rw [if_pos rfl]
    have e1 : isOp 1 = true := by decide
    have e2 : dpN 1 1 0 ≤ 50 := by decide
    have e3 : ([] : List Tr).length = (fmOf 1).pl.length := by decide
    simp [e1, e2, e3]
  have h2 : txT 1 (.mk 1 [] [] k b n t ph []) = litT k b n t := by
    rw [txT, txK]
    have e1 : ahT 1 1 = [] := by decide
    have e2 : beT 1 1 = [] := by decide
    rw [e1, e2]
    unfold ownT
    simp
  unfold prT
  rw [h1, h2]
set_option maxRecDepth 100000 in
theorem Lits_walk (k : Int) (b : Bool) (n : Int) (t : List UInt8) (ph : List Int) (pv : Value) (w : World) (hT : Tabs w) (hF : FormsAt w) (hn : n ≤ 9223372036854775807) (ht : t.length ≤ maxLen) (hPA : PhAt w ph pv) :
    Calls Tryz.prog 6 #[.agg #[.int .i64 k, .bool b, .int .i64 n, .string (txt t), pv]] w fun e w' => e = .returned (.bool true) ∧ Below w.heap.size w w' := by
  have hfine : fineT (.mk 1 [] [] k b n t ph []) := by
    rw [fineT]
    exact ⟨Nat.zero_le _, Nat.zero_le _, hn, ht, Nat.zero_le _, by rw [fineL]; trivial⟩
  have hsh : Short (.mk 1 [] [] k b n t ph []) := Short.mk _ _ _ _ _ _ _ _ _ (Nat.zero_le _) (Nat.zero_le _) (fun y hy => by simp at hy)
  have hTA : ∀ W, TAt W (.mk 1 [] [] k b n t ph []) (.slice none 0 0) := fun W => by
    rw [TAt]
    exact ⟨none, 0, rfl, .inl rfl⟩
  obtain ⟨pa, pc, rfl, hpa⟩ := hPA
  have hP : ∀ w1, Below w.heap.size w w1 → Calls Tryz.prog 13 #[(Tr.mk 1 [] [] k b n t ph []).val (.slice none 0 0) (.slice pa ph.length pc)] w1 fun e w' => e = .returned (.tuple #[.string (txt (prT (.mk 1 [] [] k b n t ph [])).1), .int .i64 (prT (.mk 1 [] [] k b n t ph [])).2]) ∧ Below w1.heap.size w1 w' :=
    fun w1 hb => print_any _ _ _ w1 (hT.below hb) (hF.below hb) hfine (hTA w1) (PhAt.below ⟨pa, pc, rfl, hpa⟩ hb)
  have hQ : ∀ w1, Below w.heap.size w w1 → Calls Tryz.prog 16 #[(Tr.mk 1 [] [] k b n t ph []).val (.slice none 0 0) (.slice pa ph.length pc)] w1 fun e w' => e = .returned (.tuple #[.string (txt (prT (.mk 1 [] [] k b n t ph [])).1), .int .i64 (prT (.mk 1 [] [] k b n t ph [])).2]) ∧ Below w1.heap.size w1 w' :=
    fun w1 hb => rprint_any _ _ _ w1 (hT.below hb) hfine hsh (hTA w1) (PhAt.below ⟨pa, pc, rfl, hpa⟩ hb)
  rw [lit_prT] at hP hQ
  unfold Tr.val at hP hQ
  dsimp only at hP hQ
  cases hB : litB k b n t ph
  · rw [hB, if_neg (by decide)] at hP hQ
    exact lits_no83 k b n (txt t) pa ph.length pc _ _ w hT hF hP hQ
  · by_cases hl : (litT k b n t).length ≤ 4096
    · rw [hB, if_pos rfl, if_pos hl] at hP
      have hr := read_lit hB hn hl
      obtain ⟨rfl, _, _⟩ := lit_parts hB
      refine lits_yes k b n (txt t) pa pc _ w hT hF hP fun w1 hb => ?_
      have h13 := parse13 (txt (litT k b n t)) (by rw [txt_size]; unfold maxLen; omega) w1 (hT.below hb)
      rw [txt_list, hr] at h13
      refine h13.mono ?_
      rintro e w' ⟨hb2, v, rfl, p, q, c, rfl, hx⟩
      refine ⟨?_, hb2⟩
      have hx2 : (Value.slice p q c) = .slice none 0 0 := hx
      rw [hx2]
      rfl
    · rw [hB, if_pos rfl, if_neg hl] at hP hQ
      exact lits_no2 k b n (txt t) pa ph.length pc _ _ w hT hF hP hQ
section
variable {H : Type} {enc : TypeId × Value → H} {W : World} {held : Bool}
/-- A value that is handed in, opened. -/
theorem open_val {fuel : Nat} {cs : List Value} {x : DataW H × List MemPlace} (h : DataW.trod enc Tryz.prog W 0 (fun _ => true) held fuel 37 cs = some x) :
    ∃ (k : Int) (b : Bool) (n : Int) (t : List UInt8) (ph : List Int) (pv : Value), cs = [.int .i64 k, .bool b, .int .i64 n, .string (txt t), pv] ∧ n ≤ 9223372036854775807 ∧ t.length ≤ maxLen ∧ PhAt W ph pv := by
  obtain ⟨xs, m, hm, hx, hl, hxl, hget4⟩ := DataW.trod_struct Tryz.underlying37 h
  rw [fc37] at hl
  obtain ⟨a4, a5, a6, a7, a8, rfl⟩ := list5 hl
  obtain ⟨z0, z1, z2, z3, z4, rfl⟩ := list5 (l := xs) (by rw [hxl]; rfl)
  have k0 : DataW.trod enc Tryz.prog W 0 (fun _ => true) held m 34 (([a4, a5, a6, a7, a8].drop 0).take (Tryz.prog.cellsOf 34)) = ([z0, z1, z2, z3, z4] : List _)[0]? := hget4 0 _ rfl
  have k1 : DataW.trod enc Tryz.prog W 0 (fun _ => true) held m 4 (([a4, a5, a6, a7, a8].drop 1).take (Tryz.prog.cellsOf 4)) = ([z0, z1, z2, z3, z4] : List _)[1]? := hget4 1 _ rfl
  have k2 : DataW.trod enc Tryz.prog W 0 (fun _ => true) held m 2 (([a4, a5, a6, a7, a8].drop 2).take (Tryz.prog.cellsOf 2)) = ([z0, z1, z2, z3, z4] : List _)[2]? := hget4 2 _ rfl
  have k3 : DataW.trod enc Tryz.prog W 0 (fun _ => true) held m 9 (([a4, a5, a6, a7, a8].drop 3).take (Tryz.prog.cellsOf 9)) = ([z0, z1, z2, z3, z4] : List _)[3]? := hget4 3 _ rfl
  have k4 : DataW.trod enc Tryz.prog W 0 (fun _ => true) held m 35 (([a4, a5, a6, a7, a8].drop 4).take (Tryz.prog.cellsOf 35)) = ([z0, z1, z2, z3, z4] : List _)[4]? := hget4 4 _ rfl
  simp only [fc34, fc4, fc2, fc35, cells9, List.drop_zero, List.drop_succ_cons, List.take_succ_cons, List.take_zero, List.getElem?_cons_zero, List.getElem?_cons_succ] at k0 k1 k2 k3 k4
  obtain ⟨kk, e4, _, _⟩ := DataW.trod_int Tryz.underlying34 k0
  obtain ⟨bb, e5, _⟩ := DataW.trod_bool Tryz.underlying4 k1
  obtain ⟨nn, e6, _, w6⟩ := DataW.trod_int Tryz.underlying2 k2
  obtain ⟨s7, e7, _, w7⟩ := DataW.trod_string Tryz.underlying9 k3
  obtain ⟨ph, pv, e8, hph⟩ := open_ph k4
  simp only [List.cons.injEq, and_true] at e4 e5 e6 e7 e8
  subst e4 e5 e6 e7 e8
  have hnn := bounds_i64 w6
  refine ⟨kk, bb, nn, s7.data.toList, ph, _, by rw [txt_of], hnn.2, ?_, hph⟩
  have q : s7.data.toList.length = s7.size := Array.length_toList
  rw [q]
  exact w7
end
end Go.Proofs.YtkcnpbckmdgfnaaGreatDoor
namespace Go.Proofs.YtkcnpbckmdgfnaaGreatDoor
open Go.ChangeShapes Go.WideShapes Go.ChangeAt Go.RowKit
set_option linter.unusedVariables false
set_option linter.unusedSimpArgs false

set_option maxRecDepth 100000 in
theorem printerLits_contract (H : Type) (enc : TypeId × Value → H) (W : World) (base : Nat) (args : Array Value) (ds gs : List (DataW H)) (before : List MemPlace)
    (hval0 : ∀ (j : Nat) t v, Tryz.f6.params[j]? = some t → args[j]? = some v → Value.okWide Tryz.prog W .any base t v)
    (hW : DataW.Whole enc Tryz.prog Tryz.f6.params.toList Rows.printerLitsSpec.vars false W args.toList ds gs before) (hL : laidMetH Tryz.prog Rows.printerLitsRow.laid W) :
    Calls Tryz.prog 6 args W fun e W' => ∃ v, e = .returned v ∧ Rows.printerLitsSpec.post enc Tryz.prog Tryz.f6 false true false false W args v W' := by
  have hval : ∀ (j : Nat) t v, Tryz.f6.params[j]? = some t → args[j]? = some v → Value.okWide Tryz.prog W .any base t v := hval0
  have hW' := hW
  obtain ⟨p, q, hA0, hV, rfl, hfz, hnd⟩ := hW
  have hA : DataW.TrodAll enc Tryz.prog W 0 (fun _ => true) true Tryz.f6.params.toList args.toList ds p := hA0
  rw [Tryz.params6] at hA hval
  obtain ⟨v0, vs0, d0, ds0, p0, q0, hargs, rfl, rfl, h0, r0⟩ := trodAll_cons hA
  obtain ⟨rfl, rfl, rfl⟩ := trodAll_nil r0
  obtain rfl : args = #[v0] := by cases args; simp_all
  obtain ⟨rfl, rfl⟩ := trodVars_none hV
  have m0 := h0
  have lt0 : ∀ x ∈ p0, x.block < W.heap.size := by obtain ⟨m, hm⟩ := m0; exact DataW.trod_lt m _ _ _ hm
  obtain ⟨cs, rfl, hsz⟩ := okWide_struct Tryz.underlying37 (hval 0 37 v0 rfl rfl)
  obtain ⟨fuel, hf⟩ := h0
  obtain ⟨k, b, n, t, ph, pv, hcs, hn, ht, hPA⟩ := open_val hf
  have hv : cs = #[.int .i64 k, .bool b, .int .i64 n, .string (txt t), pv] := by
    have e : cs.toList = [.int .i64 k, .bool b, .int .i64 n, .string (txt t), pv] := by simpa [Value.cells] using hcs
    have : cs = cs.toList.toArray := by simp
    rw [this, e]
  subst hv
  clear hA0 hval0 hval
  refine (Lits_walk k b n t ph pv W (tabs_of hL) (forms_of hL) hn ht hPA).mono fun e W' ⟨he, bel⟩ => ?_
  subst he
  exact ⟨_, rfl, _, _, _, [], _, [], hW', trodAll_mk1 (shut_bool Tryz.underlying4 _), (trodAll_cons_mk (Below.trod laidOut (by kernel_rfl) (of_decide_eq_true (by kernel_rfl)) m0 bel lt0) trodAll_mk0), rfl, bel.frame _, fun h => by cases h⟩

theorem printerLits_reads (os : Os) {H : Type} (enc : TypeId × Value → H) : ∃ places, DataW.whole enc Tryz.prog ((laidWorld os).forCall (fun _ _ => 0) ⟨#[], #[.agg #[.int .i64 0, .bool false, .int .i64 0, .string ⟨#[]⟩, .slice none 0 0]], []⟩).memory Tryz.f6.params.toList Rows.printerLitsSpec.vars false #[.agg #[.int .i64 0, .bool false, .int .i64 0, .string ⟨#[]⟩, .slice none 0 0]].toList 8 = some ([.agg [.lit (.int .i64 0), .lit (.bool false), .lit (.int .i64 0), .lit (.string []), .nil]], [], places) :=
  ⟨[], by kernel_rfl⟩

set_option maxRecDepth 100000 in
theorem printerLits_lifted (os : Os) (started : os.Started) (H : Type) (enc : TypeId × Value → H) (F : Stop.Interp) :
    ReturnsInHanded {} Tryz.checked os 6 .any ((OpenSpec.ofChange Rows.printerLitsSpec).preRow enc Tryz.prog Tryz.f6 Rows.printerLitsRow.domain false Rows.printerLitsRow.laid) (((OpenSpec.ofChange Rows.printerLitsSpec).at F).post enc Tryz.prog Tryz.f6 false true false false) := by
  obtain ⟨places, hx⟩ := printerLits_reads os enc
  refine returnsInHanded_of_row (C := Tryz.checked) (s := (OpenSpec.ofChange Rows.printerLitsSpec)) own started (by kernel_rfl) Tryz.func6
    (witness_row_shaped (enc := enc) (C := Tryz.checked) false (laidWorld os) #[.agg #[.int .i64 0, .bool false, .int .i64 0, .string ⟨#[]⟩, .slice none 0 0]] (laid_os os) (World.shaped_of_ZipB (by kernel_rfl) (by kernel_rfl)) (by kernel_rfl)
      (OpenSpec.preRow_of_cond 8 hx (by kernel_rfl) (fun k hk => by cases hk) (by kernel_rfl) (laid_met os #[.agg #[.int .i64 0, .bool false, .int .i64 0, .string ⟨#[]⟩, .slice none 0 0]]))) ?_
  intro W base args ds gs before hval hW _ hcond hsz hL _ _
  exact printerLits_contract H enc W base args ds gs before hval hW hL

theorem printerLits_said : Rows.PrinterLitsSaid :=
  OpenClaim.holds_of_cond 6 Tryz.f6 rfl rfl rfl rfl rfl rfl rfl ⟨rfl, rfl, rfl, rfl, rfl⟩ rfl rfl rfl rfl rfl (by kernel_rfl) Tryz.func6 (by kernel_rfl)
    (of_decide_eq_true (by kernel_rfl)) (by unfold Func.isWrapper; first | (rw [if_pos (by decide +kernel)]; kernel_rfl) | (rw [if_neg (by decide +kernel)]; exact ⟨rfl, rfl⟩))
    (fun os started H enc _ F => by rw [OpenClaim.pre_eq_preRow]; exact printerLits_lifted os started H enc F)

theorem printerLits_plain (f : FuncId) (fn : Func) (hf : Tryz.pinned.checked.prog.funcNamed "portolan/portolanlaw09.PrinterLits" = some f) (hfn : Tryz.pinned.checked.prog.funcs[f]? = some fn) :
    true = Tryz.pinned.checked.prog.looks [] ∧ ∀ (j : Nat) t, fn.params[j]? = some t → Tryz.pinned.checked.prog.wantsStandIn t = false := by
  obtain rfl : f = 6 := Option.some.inj ((show Tryz.prog.funcNamed "portolan/portolanlaw09.PrinterLits" = some 6 by kernel_rfl).symm.trans hf) |>.symm
  obtain rfl : fn = Tryz.f6 := (Option.some.inj (Tryz.func6.symm.trans hfn)).symm
  refine ⟨by kernel_rfl, fun j t ht => ?_⟩
  rw [Tryz.params6] at ht
  obtain rfl : t = 37 := by simpa using Array.mem_of_getElem? ht
  exact (show Tryz.prog.wantsStandIn 37 = false by kernel_rfl)

theorem printerLits_holds : Rows.PrinterLitsCardSaid :=
  Claim7.holds_tied_plain_at .later [] _ _ _ _ printerLits_said (fun _ h => by cases h) (by kernel_rfl) (fun _ h => by cases h) printerLits_row_tie rfl ⟨rfl, rfl⟩ (by kernel_rfl) rfl printerLits_plain (by kernel_rfl)
end Go.Proofs.YtkcnpbckmdgfnaaGreatDoor
