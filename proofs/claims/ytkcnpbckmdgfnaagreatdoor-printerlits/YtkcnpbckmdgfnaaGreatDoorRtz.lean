/-
  The document's expr: two kids, and their sign between them.
  The document's expr: one kid, with a word ahead or behind; a literal; a call.
  The document's call: a word, a bracket, what is within, a bracket.
-/
import Derived.Test.YtkcnpbckmdgfnaaGreatDoorRka
import Derived.Test.YtkcnpbckmdgfnaaGreatDoorRxz
namespace Go.Proofs.YtkcnpbckmdgfnaaGreatDoor
open Go.ChangeShapes Go.WideShapes Go.ChangeAt Go.RowKit
set_option linter.unusedSimpArgs false
set_option linter.unusedVariables false

/-- One call more of what writes, from where the writer stands. -/
theorem St.step {B b : Nat} {T X Y : List UInt8} {ok ok2 : Bool} {dp dp2 : Int} {w w2 : World} {f : Nat} {ar : Array Value} (h : St B b T ok X dp w w2) (hok : ok2 = true → ok = true)
    (F : ∀ T', St B b T' ok [] dp w2 w2 → Calls Tryz.prog f ar w2 fun e w' => e = .returned (.tuple #[]) ∧ St B b T' ok2 Y dp2 w2 w') :
    Calls Tryz.prog f ar w2 fun e w' => e = .returned (.tuple #[]) ∧ Kps B b w2 w' ∧ St B b T ok2 (X ++ Y) dp2 w w' := by
  have hz := h.siz
  obtain ⟨hB, hk, T', hW, hT⟩ := h
  refine (F T' (St.start hz hW)).mono ?_
  rintro e w' ⟨rfl, _, hk2, T2, hW2, hT2⟩
  exact ⟨rfl, hk2, hB, hk.trans hk2, T2, hW2, fun e => by rw [hT2 e, hT (hok e), List.append_assoc]⟩
theorem St.says {B b : Nat} {T X : List UInt8} {ok : Bool} {dp : Int} {w w2 : World} (s : List UInt8) (h : St B b T ok X dp w w2) (hs : s.length ≤ 4194304) :
    Calls Tryz.prog 20 #[.pointer (some ⟨b, 0, none⟩), .string (txt s)] w2 fun e w' => e = .returned (.tuple #[]) ∧ Kps B b w2 w' ∧ St B b T ok (X ++ s) dp w w' :=
  h.step (fun e => e) fun T' h' => h'.say s hs
theorem St.downs {B b : Nat} {T X : List UInt8} {ok : Bool} {dp : Int} {w w2 : World} (h : St B b T ok X dp w w2) (h0 : 0 ≤ dp) (h1 : dp ≤ 1000) :
    Calls Tryz.prog 48 #[.pointer (some ⟨b, 0, none⟩)] w2 fun e w' => e = .returned (.tuple #[]) ∧ Kps B b w2 w' ∧ St B b T (ok && decide (dp + 1 ≤ 50)) X (dp + 1) w w' := by
  have := h.step (Y := []) (ok2 := ok && decide (dp + 1 ≤ 50)) (dp2 := dp + 1) (f := 48) (ar := #[.pointer (some ⟨b, 0, none⟩)]) (fun e => by rw [Bool.and_eq_true] at e; exact e.1) fun T' h' => h'.down h0 h1
  rw [List.append_nil] at this
  exact this
theorem kid_on {w0 : World} {b : Nat} (op : Int) (nm pr : List UInt8) (k : Int) (bb : Bool) (n : Int) (t : List UInt8) (ph : List Int) (ks : List Tr) (kv pv : Value) (m : Nat) (y : Tr) (hy : ks[m]? = some y) (ih : DOk w0 b y) (P : Int) (hA : ∀ w1, Calls Tryz.prog 80 #[.int .i64 op, .int .i64 (m : Int)] w1 fun e w' => e = .returned (.int .i64 P) ∧ w' = w1) (hP1 : 1 ≤ P) (hP8 : P ≤ 8)
    {dp : Int} {ok : Bool} {T X : List UInt8} {w w2 : World} (h0 : 0 ≤ dp) (h1 : dp ≤ 55) (h2 : ok = true → dp ≤ 50) (hfi : fineT (.mk op nm pr k bb n t ph ks)) (hsh : Short (.mk op nm pr k bb n t ph ks)) (hTA : TAt w0 (.mk op nm pr k bb n t ph ks) kv) (hbel : Below w0.heap.size w0 w) (hS : St w0.heap.size b T ok X dp w w2) :
    Calls Tryz.prog 46 #[.pointer (some ⟨b, 0, none⟩), (Tr.mk op nm pr k bb n t ph ks).val kv pv, .int .i64 (m : Int)] w2 fun e w' => e = .returned (.tuple #[]) ∧ Kps w0.heap.size b w2 w' ∧ St w0.heap.size b T (ok && okT P dp y) (X ++ txT P y) dp w w' :=
  hS.step (fun e => by rw [Bool.and_eq_true] at e; exact e.1) fun T' h' => kid_any op nm pr k bb n t ph ks kv pv m y hy ih P hA hP1 hP8 h0 h1 h2 hfi hsh hTA (hbel.trans hS.kps.bel) h'
theorem sg_any (m : Nat) (h1 : 4 ≤ m) (h2 : m ≤ 16) : ∃ s : List UInt8, s.length ≤ 10 ∧ (fmOf (m : Int)).bt = [32] ++ s ++ [32] ∧ ∀ w, Calls Tryz.prog 47 #[.int .i64 (m : Int)] w fun e w' => e = .returned (.string (txt s)) ∧ Below w.heap.size w w' :=
  match m, h1, h2 with
  | 4, _, _ => ⟨[79, 82], by decide, rfl, sg_4⟩
  | 5, _, _ => ⟨[65, 78, 68], by decide, rfl, sg_5⟩
  | 6, _, _ => ⟨[61], by decide, rfl, sg_6⟩
  | 7, _, _ => ⟨[60, 62], by decide, rfl, sg_7⟩
  | 8, _, _ => ⟨[60], by decide, rfl, sg_8⟩
  | 9, _, _ => ⟨[60, 61], by decide, rfl, sg_9⟩
  | 10, _, _ => ⟨[62], by decide, rfl, sg_10⟩
  | 11, _, _ => ⟨[62, 61], by decide, rfl, sg_11⟩
  | 12, _, _ => ⟨[43], by decide, rfl, sg_12⟩
  | 13, _, _ => ⟨[45], by decide, rfl, sg_13⟩
  | 14, _, _ => ⟨[42], by decide, rfl, sg_14⟩
  | 15, _, _ => ⟨[47], by decide, rfl, sg_15⟩
  | 16, _, _ => ⟨[37], by decide, rfl, sg_16⟩
  | m + 17, _, h => absurd h (by omega)
set_option maxRecDepth 100000 in
set_option maxHeartbeats 2000000 in
theorem rexpr_two {okA okB : Bool} {XA XB sg : List UInt8} (op : Int) {B b : Nat} {T : List UInt8} {dp : Int} (nm pr : List UInt8) (k : Int) (bb : Bool) (n : Int) (t : List UInt8) (kp : Option Addr) (kn kc : Nat) (pa : Option Addr) (pl pc : Nat) (w : World)
    (hS : St B b T true [] dp w w) (hf : ∀ w1, Below w.heap.size w w1 → Calls Tryz.prog 44 #[.agg #[.int .i64 op, .slice kp kn kc, .string (txt nm), .string (txt pr), .int .i64 k, .bool bb, .int .i64 n, .string (txt t), .slice pa pl pc]] w1 fun e w' => e = .returned (.bool true) ∧ Below w1.heap.size w1 w')
    (o4 : 4 ≤ op) (o16 : op ≤ 16) (hsl : sg.length ≤ 10) (hs : ∀ w, Calls Tryz.prog 47 #[.int .i64 op] w fun e w' => e = .returned (.string (txt sg)) ∧ Below w.heap.size w w')
    (hA : ∀ w2, St B b T true [] dp w w2 → Calls Tryz.prog 46 #[.pointer (some ⟨b, 0, none⟩), .agg #[.int .i64 op, .slice kp kn kc, .string (txt nm), .string (txt pr), .int .i64 k, .bool bb, .int .i64 n, .string (txt t), .slice pa pl pc], .int .i64 0] w2 fun e w' => e = .returned (.tuple #[]) ∧ Kps B b w2 w' ∧ St B b T okA XA dp w w')
    (hB : ∀ w2, St B b T okA (XA ++ ([32] ++ sg ++ [32])) dp w w2 → Calls Tryz.prog 46 #[.pointer (some ⟨b, 0, none⟩), .agg #[.int .i64 op, .slice kp kn kc, .string (txt nm), .string (txt pr), .int .i64 k, .bool bb, .int .i64 n, .string (txt t), .slice pa pl pc], .int .i64 1] w2 fun e w' => e = .returned (.tuple #[]) ∧ Kps B b w2 w' ∧ St B b T okB XB dp w w') :
    Calls Tryz.prog 22 #[.pointer (some ⟨b, 0, none⟩), .agg #[.int .i64 op, .slice kp kn kc, .string (txt nm), .string (txt pr), .int .i64 k, .bool bb, .int .i64 n, .string (txt t), .slice pa pl pc]] w fun e w' => e = .returned (.tuple #[]) ∧ St B b T okB XB dp w w' := by
  have e1 : (op == 1) = false := by simp; omega
  have e2 : (op == 2) = false := by simp; omega
  have e3 : (op == 3) = false := by simp; omega
  have d16 : decide (op ≤ 16) = true := by simp; omega
  have hz := txt_size sg
  have u1 : ∀ W, (Op.stringOp .add (⟨#[32]⟩ : ByteArray) (txt sg : ByteArray)).run Tryz.prog W = .ok (.string ((⟨#[32]⟩ : ByteArray) ++ txt sg)) W := fun W => by apply run_string_add_sum; rw [hz]; show 1 + _ ≤ _; omega
  have u2 : ∀ W, (Op.stringOp .add (((⟨#[32]⟩ : ByteArray) ++ txt sg) : ByteArray) (⟨#[32]⟩ : ByteArray)).run Tryz.prog W = .ok (.string (((⟨#[32]⟩ : ByteArray) ++ txt sg) ++ ⟨#[32]⟩)) W := fun W => by apply run_string_add_sum; rw [ByteArray.size_append, hz]; show 1 + _ + 1 ≤ _; omega
  have hC := fun (w2 : World) (h : St B b T okA XA dp w w2) => h.says ([32] ++ sg ++ [32]) (by simp only [List.length_append, List.length_cons, List.length_nil]; omega)
  rw [show txt ([32] ++ sg ++ [32]) = ((⟨#[32]⟩ : ByteArray) ++ txt sg) ++ ⟨#[32]⟩ by rw [← txt_app, ← txt_app]; rfl] at hC
  replace hs : Hid _ := hs
  replace hA : Hid _ := hA
  replace hB : Hid _ := hB
  replace hC : Hid _ := hC
  clear hz hsl
  have hb0 := below_new w (.cells #[.int .i64 op, .slice kp kn kc, .string (txt nm), .string (txt pr), .int .i64 k, .bool bb, .int .i64 n, .string (txt t), .slice pa pl pc] 39)
  have hf0 := hf _ hb0
  have hlt : Hid _ := hS.ltb
  have hsz : Hid _ := hS.siz
  replace hb0 : Hid _ := hb0
  replace hf0 : Hid _ := hf0
  replace hS : Hid (St B b T true [] dp w w) := hS
  clear hf
  go_enter Tryz.func22, Tryz.ntmps22
  go_wp2_with fail
  go_at_call 44
  refine Calls.mono hf0.out ?_
  rintro e w1 ⟨rfl, hb1⟩
  have hb2 := below_on hb0.out hb1
  have hS1 := hS.out.below hb2
  have g1 : w1.cell? ⟨b, 2, none⟩ = some (.bool false) := hS1.bad_cell.1
  have hbk1 := (hb1.block w.heap.size (by simp)).trans (heap_alloc_new w (.cells #[.int .i64 op, .slice kp kn kc, .string (txt nm), .string (txt pr), .int .i64 k, .bool bb, .int .i64 n, .string (txt t), .slice pa pl pc] 39))
  have x0 := box_cell hbk1 0
  have x1 := box_cell hbk1 1
  have x2 := box_cell hbk1 2
  have x3 := box_cell hbk1 3
  have x4 := box_cell hbk1 4
  have x5 := box_cell hbk1 5
  have x6 := box_cell hbk1 6
  have x7 := box_cell hbk1 7
  have x8 := box_cell hbk1 8
  simp only [List.getElem?_toArray, List.getElem?_cons_zero, List.getElem?_cons_succ] at x0 x1 x2 x3 x4 x5 x6 x7 x8
  replace hbk1 : Hid _ := hbk1
  replace hb2 : Hid (Below w.heap.size w w1) := hb2
  replace hS1 : Hid (St B b T true [] dp w w1) := hS1
  have hK1 : Hid (Kps B b w w1) := Kps.of hb2.out hsz.out
  go_wp2_with fail
  go_at_call 46
  refine Calls.mono (hA.out w1 hS1.out) ?_
  rintro e w2 ⟨rfl, hK, hS2⟩
  have hbk2 := hK.box hbk1.out (by decide) (by have := hlt.out; omega)
  have y0 := box_cell hbk2 0
  have y1 := box_cell hbk2 1
  have y2 := box_cell hbk2 2
  have y3 := box_cell hbk2 3
  have y4 := box_cell hbk2 4
  have y5 := box_cell hbk2 5
  have y6 := box_cell hbk2 6
  have y7 := box_cell hbk2 7
  have y8 := box_cell hbk2 8
  simp only [List.getElem?_toArray, List.getElem?_cons_zero, List.getElem?_cons_succ] at y0 y1 y2 y3 y4 y5 y6 y7 y8
  replace hbk2 : Hid _ := hbk2
  replace hS2 : Hid (St B b T okA XA dp w w2) := hS2
  have hK2 : Hid (Kps B b w w2) := hK1.out.trans hK
  clear hK
  go_wp2_with fail
  go_at_call 47
  refine Calls.mono (hs.out w2) ?_
  rintro e w3 ⟨rfl, hbs⟩
  have hbk3 := (hbs.block w.heap.size (Array.getElem?_eq_some_iff.1 hbk2.out).1).trans hbk2.out
  have z0 := box_cell hbk3 0
  have z1 := box_cell hbk3 1
  have z2 := box_cell hbk3 2
  have z3 := box_cell hbk3 3
  have z4 := box_cell hbk3 4
  have z5 := box_cell hbk3 5
  have z6 := box_cell hbk3 6
  have z7 := box_cell hbk3 7
  have z8 := box_cell hbk3 8
  simp only [List.getElem?_toArray, List.getElem?_cons_zero, List.getElem?_cons_succ] at z0 z1 z2 z3 z4 z5 z6 z7 z8
  have hS3 : Hid (St B b T okA XA dp w w3) := hS2.out.below hbs
  have hK3 : Hid (Kps B b w w3) := hK2.out.trans (Kps.of hbs hS2.out.siz)
  replace hbk3 : Hid _ := hbk3
  go_wp2_with fail
  go_at_call 20
  refine Calls.mono (hC.out w3 hS3.out) ?_
  rintro e w4 ⟨rfl, hK, hS4⟩
  have hbk4 := hK.box hbk3.out (by decide) (by have := hlt.out; omega)
  have u0 := box_cell hbk4 0
  have u1 := box_cell hbk4 1
  have u2 := box_cell hbk4 2
  have u3 := box_cell hbk4 3
  have u4 := box_cell hbk4 4
  have u5 := box_cell hbk4 5
  have u6 := box_cell hbk4 6
  have u7 := box_cell hbk4 7
  have u8 := box_cell hbk4 8
  simp only [List.getElem?_toArray, List.getElem?_cons_zero, List.getElem?_cons_succ] at u0 u1 u2 u3 u4 u5 u6 u7 u8
  replace hbk4 : Hid _ := hbk4
  replace hS4 : Hid (St B b T okA (XA ++ ([32] ++ sg ++ [32])) dp w w4) := hS4
  have hK4 : Hid (Kps B b w w4) := hK3.out.trans hK
  clear hK
  go_wp2_with fail
  go_at_call 46
  refine Calls.mono (hB.out w4 hS4.out) ?_
  rintro e w5 ⟨rfl, hK, hS5⟩
  replace hS5 : Hid (St B b T okB XB dp w w5) := hS5
  have hK5 : Hid (Kps B b w w5) := hK4.out.trans hK
  clear hK
  go_wp2_with fail
  exact bodyPost_end (results_none rfl _ _ _) rfl ⟨rfl, hS5.out⟩
end Go.Proofs.YtkcnpbckmdgfnaaGreatDoor
namespace Go.Proofs.YtkcnpbckmdgfnaaGreatDoor
open Go.ChangeShapes Go.WideShapes Go.ChangeAt Go.RowKit
set_option linter.unusedSimpArgs false
set_option linter.unusedVariables false

set_option maxRecDepth 100000 in
set_option maxHeartbeats 2000000 in
theorem rexpr_not {o1 o2 : Bool} {XA : List UInt8} {B b : Nat} {T : List UInt8} {dp : Int} (nm pr : List UInt8) (k : Int) (bb : Bool) (n : Int) (t : List UInt8) (kp : Option Addr) (kn kc : Nat) (pa : Option Addr) (pl pc : Nat) (w : World)
    (hS : St B b T true [] dp w w) (hf : ∀ w1, Below w.heap.size w w1 → Calls Tryz.prog 44 #[.agg #[.int .i64 17, .slice kp kn kc, .string (txt nm), .string (txt pr), .int .i64 k, .bool bb, .int .i64 n, .string (txt t), .slice pa pl pc]] w1 fun e w' => e = .returned (.bool true) ∧ Below w1.heap.size w1 w') (h0 : 0 ≤ dp) (h1 : dp ≤ 1000)
    (hD : ∀ w2, St B b T true [] dp w w2 → Calls Tryz.prog 48 #[.pointer (some ⟨b, 0, none⟩)] w2 fun e w' => e = .returned (.tuple #[]) ∧ Kps B b w2 w' ∧ St B b T o1 [] (dp + 1) w w')
    (hA : ∀ w2, St B b T o1 [78, 79, 84, 32] (dp + 1) w w2 → Calls Tryz.prog 46 #[.pointer (some ⟨b, 0, none⟩), .agg #[.int .i64 17, .slice kp kn kc, .string (txt nm), .string (txt pr), .int .i64 k, .bool bb, .int .i64 n, .string (txt t), .slice pa pl pc], .int .i64 0] w2 fun e w' => e = .returned (.tuple #[]) ∧ Kps B b w2 w' ∧ St B b T o2 XA (dp + 1) w w') :
    Calls Tryz.prog 22 #[.pointer (some ⟨b, 0, none⟩), .agg #[.int .i64 17, .slice kp kn kc, .string (txt nm), .string (txt pr), .int .i64 k, .bool bb, .int .i64 n, .string (txt t), .slice pa pl pc]] w fun e w' => e = .returned (.tuple #[]) ∧ St B b T o2 XA dp w w' := by
  have hC := fun (w2 : World) (h : St B b T o1 [] (dp + 1) w w2) => h.says [78, 79, 84, 32] (by decide)
  rw [show txt [78, 79, 84, 32] = ⟨#[78, 79, 84, 32]⟩ from rfl] at hC
  have hb9 : dp + 1 - 1 = dp := by omega
  replace hD : Hid _ := hD
  replace hA : Hid _ := hA
  replace hC : Hid _ := hC
  have hb0 := below_new w (.cells #[.int .i64 17, .slice kp kn kc, .string (txt nm), .string (txt pr), .int .i64 k, .bool bb, .int .i64 n, .string (txt t), .slice pa pl pc] 39)
  have hf0 := hf _ hb0
  have hlt : Hid _ := hS.ltb
  have hsz : Hid _ := hS.siz
  replace hb0 : Hid _ := hb0
  replace hf0 : Hid _ := hf0
  replace hS : Hid (St B b T true [] dp w w) := hS
  clear hf
  go_enter Tryz.func22, Tryz.ntmps22
  go_wp2_with fail
  go_at_call 44
  refine Calls.mono hf0.out ?_
  rintro e w1 ⟨rfl, hb1⟩
  have hb2 := below_on hb0.out hb1
  have hS1 := hS.out.below hb2
  have g1 : w1.cell? ⟨b, 2, none⟩ = some (.bool false) := hS1.bad_cell.1
  have hbk1 := (hb1.block w.heap.size (by simp)).trans (heap_alloc_new w (.cells #[.int .i64 17, .slice kp kn kc, .string (txt nm), .string (txt pr), .int .i64 k, .bool bb, .int .i64 n, .string (txt t), .slice pa pl pc] 39))
  have x0 := box_cell hbk1 0
  have x1 := box_cell hbk1 1
  have x2 := box_cell hbk1 2
  have x3 := box_cell hbk1 3
  have x4 := box_cell hbk1 4
  have x5 := box_cell hbk1 5
  have x6 := box_cell hbk1 6
  have x7 := box_cell hbk1 7
  have x8 := box_cell hbk1 8
  simp only [List.getElem?_toArray, List.getElem?_cons_zero, List.getElem?_cons_succ] at x0 x1 x2 x3 x4 x5 x6 x7 x8
  replace hbk1 : Hid _ := hbk1
  replace hb2 : Hid (Below w.heap.size w w1) := hb2
  replace hS1 : Hid (St B b T true [] dp w w1) := hS1
  have hK1 : Hid (Kps B b w w1) := Kps.of hb2.out hsz.out
  go_wp2_with fail
  go_at_call 48
  refine Calls.mono (hD.out w1 hS1.out) ?_
  rintro e w2 ⟨rfl, hK, hS2⟩
  have hbk2 := hK.box hbk1.out (by decide) (by have := hlt.out; omega)
  have y0 := box_cell hbk2 0
  have y1 := box_cell hbk2 1
  have y2 := box_cell hbk2 2
  have y3 := box_cell hbk2 3
  have y4 := box_cell hbk2 4
  have y5 := box_cell hbk2 5
  have y6 := box_cell hbk2 6
  have y7 := box_cell hbk2 7
  have y8 := box_cell hbk2 8
  simp only [List.getElem?_toArray, List.getElem?_cons_zero, List.getElem?_cons_succ] at y0 y1 y2 y3 y4 y5 y6 y7 y8
  replace hbk2 : Hid _ := hbk2
  replace hS2 : Hid (St B b T o1 [] (dp + 1) w w2) := hS2
  have hK2 : Hid (Kps B b w w2) := hK1.out.trans hK
  clear hK
  go_wp2_with fail
  go_at_call 20
  refine Calls.mono (hC.out w2 hS2.out) ?_
  rintro e w3 ⟨rfl, hK, hS3⟩
  have hbk3 := hK.box hbk2.out (by decide) (by have := hlt.out; omega)
  have z0 := box_cell hbk3 0
  have z1 := box_cell hbk3 1
  have z2 := box_cell hbk3 2
  have z3 := box_cell hbk3 3
  have z4 := box_cell hbk3 4
  have z5 := box_cell hbk3 5
  have z6 := box_cell hbk3 6
  have z7 := box_cell hbk3 7
  have z8 := box_cell hbk3 8
  simp only [List.getElem?_toArray, List.getElem?_cons_zero, List.getElem?_cons_succ] at z0 z1 z2 z3 z4 z5 z6 z7 z8
  replace hbk3 : Hid _ := hbk3
  replace hS3 : Hid (St B b T o1 [78, 79, 84, 32] (dp + 1) w w3) := hS3
  have hK3 : Hid (Kps B b w w3) := hK2.out.trans hK
  clear hK
  go_wp2_with fail
  go_at_call 46
  refine Calls.mono (hA.out w3 hS3.out) ?_
  rintro e w4 ⟨rfl, hK, hS4⟩
  replace hS4 : Hid (St B b T o2 XA (dp + 1) w w4) := hS4
  have hK4 : Hid (Kps B b w w4) := hK3.out.trans hK
  clear hK
  have g1 := hS4.out.deep_cell.1
  have g2 := hS4.out.deep_cell.2
  have hF := hS4.out.deep dp
  replace hF : Hid _ := hF
  go_wp2_with fail
  exact bodyPost_end (results_none rfl _ _ _) rfl ⟨rfl, hF.out⟩
set_option maxRecDepth 100000 in
set_option maxHeartbeats 2000000 in
theorem rexpr_neg {o1 o2 : Bool} {XA : List UInt8} {B b : Nat} {T : List UInt8} {dp : Int} (nm pr : List UInt8) (k : Int) (bb : Bool) (n : Int) (t : List UInt8) (kp : Option Addr) (kn kc : Nat) (pa : Option Addr) (pl pc : Nat) (w : World)
    (hS : St B b T true [] dp w w) (hf : ∀ w1, Below w.heap.size w w1 → Calls Tryz.prog 44 #[.agg #[.int .i64 18, .slice kp kn kc, .string (txt nm), .string (txt pr), .int .i64 k, .bool bb, .int .i64 n, .string (txt t), .slice pa pl pc]] w1 fun e w' => e = .returned (.bool true) ∧ Below w1.heap.size w1 w') (h0 : 0 ≤ dp) (h1 : dp ≤ 1000)
    (hD : ∀ w2, St B b T true [] dp w w2 → Calls Tryz.prog 48 #[.pointer (some ⟨b, 0, none⟩)] w2 fun e w' => e = .returned (.tuple #[]) ∧ Kps B b w2 w' ∧ St B b T o1 [] (dp + 1) w w')
    (hA : ∀ w2, St B b T o1 [45] (dp + 1) w w2 → Calls Tryz.prog 46 #[.pointer (some ⟨b, 0, none⟩), .agg #[.int .i64 18, .slice kp kn kc, .string (txt nm), .string (txt pr), .int .i64 k, .bool bb, .int .i64 n, .string (txt t), .slice pa pl pc], .int .i64 0] w2 fun e w' => e = .returned (.tuple #[]) ∧ Kps B b w2 w' ∧ St B b T o2 XA (dp + 1) w w') :
    Calls Tryz.prog 22 #[.pointer (some ⟨b, 0, none⟩), .agg #[.int .i64 18, .slice kp kn kc, .string (txt nm), .string (txt pr), .int .i64 k, .bool bb, .int .i64 n, .string (txt t), .slice pa pl pc]] w fun e w' => e = .returned (.tuple #[]) ∧ St B b T o2 XA dp w w' := by
  have hC := fun (w2 : World) (h : St B b T o1 [] (dp + 1) w w2) => h.says [45] (by decide)
  rw [show txt [45] = ⟨#[45]⟩ from rfl] at hC
  have hb9 : dp + 1 - 1 = dp := by omega
  replace hD : Hid _ := hD
  replace hA : Hid _ := hA
  replace hC : Hid _ := hC
  have hb0 := below_new w (.cells #[.int .i64 18, .slice kp kn kc, .string (txt nm), .string (txt pr), .int .i64 k, .bool bb, .int .i64 n, .string (txt t), .slice pa pl pc] 39)
  have hf0 := hf _ hb0
  have hlt : Hid _ := hS.ltb
  have hsz : Hid _ := hS.siz
  replace hb0 : Hid _ := hb0
  replace hf0 : Hid _ := hf0
  replace hS : Hid (St B b T true [] dp w w) := hS
  clear hf
  go_enter Tryz.func22, Tryz.ntmps22
  go_wp2_with fail
  go_at_call 44
  refine Calls.mono hf0.out ?_
  rintro e w1 ⟨rfl, hb1⟩
  have hb2 := below_on hb0.out hb1
  have hS1 := hS.out.below hb2
  have g1 : w1.cell? ⟨b, 2, none⟩ = some (.bool false) := hS1.bad_cell.1
  have hbk1 := (hb1.block w.heap.size (by simp)).trans (heap_alloc_new w (.cells #[.int .i64 18, .slice kp kn kc, .string (txt nm), .string (txt pr), .int .i64 k, .bool bb, .int .i64 n, .string (txt t), .slice pa pl pc] 39))
  have x0 := box_cell hbk1 0
  have x1 := box_cell hbk1 1
  have x2 := box_cell hbk1 2
  have x3 := box_cell hbk1 3
  have x4 := box_cell hbk1 4
  have x5 := box_cell hbk1 5
  have x6 := box_cell hbk1 6
  have x7 := box_cell hbk1 7
  have x8 := box_cell hbk1 8
  simp only [List.getElem?_toArray, List.getElem?_cons_zero, List.getElem?_cons_succ] at x0 x1 x2 x3 x4 x5 x6 x7 x8
  replace hbk1 : Hid _ := hbk1
  replace hb2 : Hid (Below w.heap.size w w1) := hb2
  replace hS1 : Hid (St B b T true [] dp w w1) := hS1
  have hK1 : Hid (Kps B b w w1) := Kps.of hb2.out hsz.out
  go_wp2_with fail
  go_at_call 48
  refine Calls.mono (hD.out w1 hS1.out) ?_
  rintro e w2 ⟨rfl, hK, hS2⟩
  have hbk2 := hK.box hbk1.out (by decide) (by have := hlt.out; omega)
  have y0 := box_cell hbk2 0
  have y1 := box_cell hbk2 1
  have y2 := box_cell hbk2 2
  have y3 := box_cell hbk2 3
  have y4 := box_cell hbk2 4
  have y5 := box_cell hbk2 5
  have y6 := box_cell hbk2 6
  have y7 := box_cell hbk2 7
  have y8 := box_cell hbk2 8
  simp only [List.getElem?_toArray, List.getElem?_cons_zero, List.getElem?_cons_succ] at y0 y1 y2 y3 y4 y5 y6 y7 y8
  replace hbk2 : Hid _ := hbk2
  replace hS2 : Hid (St B b T o1 [] (dp + 1) w w2) := hS2
  have hK2 : Hid (Kps B b w w2) := hK1.out.trans hK
  clear hK
  go_wp2_with fail
  go_at_call 20
  refine Calls.mono (hC.out w2 hS2.out) ?_
  rintro e w3 ⟨rfl, hK, hS3⟩
  have hbk3 := hK.box hbk2.out (by decide) (by have := hlt.out; omega)
  have z0 := box_cell hbk3 0
  have z1 := box_cell hbk3 1
  have z2 := box_cell hbk3 2
  have z3 := box_cell hbk3 3
  have z4 := box_cell hbk3 4
  have z5 := box_cell hbk3 5
  have z6 := box_cell hbk3 6
  have z7 := box_cell hbk3 7
  have z8 := box_cell hbk3 8
  simp only [List.getElem?_toArray, List.getElem?_cons_zero, List.getElem?_cons_succ] at z0 z1 z2 z3 z4 z5 z6 z7 z8
  replace hbk3 : Hid _ := hbk3
  replace hS3 : Hid (St B b T o1 [45] (dp + 1) w w3) := hS3
  have hK3 : Hid (Kps B b w w3) := hK2.out.trans hK
  clear hK
  go_wp2_with fail
  go_at_call 46
  refine Calls.mono (hA.out w3 hS3.out) ?_
  rintro e w4 ⟨rfl, hK, hS4⟩
  replace hS4 : Hid (St B b T o2 XA (dp + 1) w w4) := hS4
  have hK4 : Hid (Kps B b w w4) := hK3.out.trans hK
  clear hK
  have g1 := hS4.out.deep_cell.1
  have g2 := hS4.out.deep_cell.2
  have hF := hS4.out.deep dp
  replace hF : Hid _ := hF
  go_wp2_with fail
  exact bodyPost_end (results_none rfl _ _ _) rfl ⟨rfl, hF.out⟩
set_option maxRecDepth 100000 in
set_option maxHeartbeats 2000000 in
theorem rexpr_null {o2 : Bool} {XA : List UInt8} {B b : Nat} {T : List UInt8} {dp : Int} (nm pr : List UInt8) (k : Int) (bb : Bool) (n : Int) (t : List UInt8) (kp : Option Addr) (kn kc : Nat) (pa : Option Addr) (pl pc : Nat) (w : World)
    (hS : St B b T true [] dp w w) (hf : ∀ w1, Below w.heap.size w w1 → Calls Tryz.prog 44 #[.agg #[.int .i64 19, .slice kp kn kc, .string (txt nm), .string (txt pr), .int .i64 k, .bool bb, .int .i64 n, .string (txt t), .slice pa pl pc]] w1 fun e w' => e = .returned (.bool true) ∧ Below w1.heap.size w1 w')
    (hA : ∀ w2, St B b T true [] dp w w2 → Calls Tryz.prog 46 #[.pointer (some ⟨b, 0, none⟩), .agg #[.int .i64 19, .slice kp kn kc, .string (txt nm), .string (txt pr), .int .i64 k, .bool bb, .int .i64 n, .string (txt t), .slice pa pl pc], .int .i64 0] w2 fun e w' => e = .returned (.tuple #[]) ∧ Kps B b w2 w' ∧ St B b T o2 XA dp w w') :
    Calls Tryz.prog 22 #[.pointer (some ⟨b, 0, none⟩), .agg #[.int .i64 19, .slice kp kn kc, .string (txt nm), .string (txt pr), .int .i64 k, .bool bb, .int .i64 n, .string (txt t), .slice pa pl pc]] w fun e w' => e = .returned (.tuple #[]) ∧ St B b T o2 (XA ++ [32, 73, 83, 32, 78, 85, 76, 76]) dp w w' := by
  have hC := fun (w2 : World) (h : St B b T o2 XA dp w w2) => h.says [32, 73, 83, 32, 78, 85, 76, 76] (by decide)
  rw [show txt [32, 73, 83, 32, 78, 85, 76, 76] = ⟨#[32, 73, 83, 32, 78, 85, 76, 76]⟩ from rfl] at hC
  replace hA : Hid _ := hA
  replace hC : Hid _ := hC
  have hb0 := below_new w (.cells #[.int .i64 19, .slice kp kn kc, .string (txt nm), .string (txt pr), .int .i64 k, .bool bb, .int .i64 n, .string (txt t), .slice pa pl pc] 39)
  have hf0 := hf _ hb0
  have hlt : Hid _ := hS.ltb
  have hsz : Hid _ := hS.siz
  replace hb0 : Hid _ := hb0
  replace hf0 : Hid _ := hf0
  replace hS : Hid (St B b T true [] dp w w) := hS
  clear hf
  go_enter Tryz.func22, Tryz.ntmps22
  go_wp2_with fail
  go_at_call 44
  refine Calls.mono hf0.out ?_
  rintro e w1 ⟨rfl, hb1⟩
  have hb2 := below_on hb0.out hb1
  have hS1 := hS.out.below hb2
  have g1 : w1.cell? ⟨b, 2, none⟩ = some (.bool false) := hS1.bad_cell.1
  have hbk1 := (hb1.block w.heap.size (by simp)).trans (heap_alloc_new w (.cells #[.int .i64 19, .slice kp kn kc, .string (txt nm), .string (txt pr), .int .i64 k, .bool bb, .int .i64 n, .string (txt t), .slice pa pl pc] 39))
  have x0 := box_cell hbk1 0
  have x1 := box_cell hbk1 1
  have x2 := box_cell hbk1 2
  have x3 := box_cell hbk1 3
  have x4 := box_cell hbk1 4
  have x5 := box_cell hbk1 5
  have x6 := box_cell hbk1 6
  have x7 := box_cell hbk1 7
  have x8 := box_cell hbk1 8
  simp only [List.getElem?_toArray, List.getElem?_cons_zero, List.getElem?_cons_succ] at x0 x1 x2 x3 x4 x5 x6 x7 x8
  replace hbk1 : Hid _ := hbk1
  replace hb2 : Hid (Below w.heap.size w w1) := hb2
  replace hS1 : Hid (St B b T true [] dp w w1) := hS1
  have hK1 : Hid (Kps B b w w1) := Kps.of hb2.out hsz.out
  go_wp2_with fail
  go_at_call 46
  refine Calls.mono (hA.out w1 hS1.out) ?_
  rintro e w2 ⟨rfl, hK, hS2⟩
  have hbk2 := hK.box hbk1.out (by decide) (by have := hlt.out; omega)
  have y0 := box_cell hbk2 0
  have y1 := box_cell hbk2 1
  have y2 := box_cell hbk2 2
  have y3 := box_cell hbk2 3
  have y4 := box_cell hbk2 4
  have y5 := box_cell hbk2 5
  have y6 := box_cell hbk2 6
  have y7 := box_cell hbk2 7
  have y8 := box_cell hbk2 8
  simp only [List.getElem?_toArray, List.getElem?_cons_zero, List.getElem?_cons_succ] at y0 y1 y2 y3 y4 y5 y6 y7 y8
  replace hbk2 : Hid _ := hbk2
  replace hS2 : Hid (St B b T o2 XA dp w w2) := hS2
  have hK2 : Hid (Kps B b w w2) := hK1.out.trans hK
  clear hK
  go_wp2_with fail
  go_at_call 20
  refine Calls.mono (hC.out w2 hS2.out) ?_
  rintro e w3 ⟨rfl, hK, hS3⟩
  replace hS3 : Hid (St B b T o2 (XA ++ [32, 73, 83, 32, 78, 85, 76, 76]) dp w w3) := hS3
  have hK3 : Hid (Kps B b w w3) := hK2.out.trans hK
  clear hK
  go_wp2_with fail
  exact bodyPost_end (results_none rfl _ _ _) rfl ⟨rfl, hS3.out⟩
set_option maxRecDepth 100000 in
set_option maxHeartbeats 2000000 in
theorem rexpr_some {o2 : Bool} {XA : List UInt8} {B b : Nat} {T : List UInt8} {dp : Int} (nm pr : List UInt8) (k : Int) (bb : Bool) (n : Int) (t : List UInt8) (kp : Option Addr) (kn kc : Nat) (pa : Option Addr) (pl pc : Nat) (w : World)
    (hS : St B b T true [] dp w w) (hf : ∀ w1, Below w.heap.size w w1 → Calls Tryz.prog 44 #[.agg #[.int .i64 20, .slice kp kn kc, .string (txt nm), .string (txt pr), .int .i64 k, .bool bb, .int .i64 n, .string (txt t), .slice pa pl pc]] w1 fun e w' => e = .returned (.bool true) ∧ Below w1.heap.size w1 w')
    (hA : ∀ w2, St B b T true [] dp w w2 → Calls Tryz.prog 46 #[.pointer (some ⟨b, 0, none⟩), .agg #[.int .i64 20, .slice kp kn kc, .string (txt nm), .string (txt pr), .int .i64 k, .bool bb, .int .i64 n, .string (txt t), .slice pa pl pc], .int .i64 0] w2 fun e w' => e = .returned (.tuple #[]) ∧ Kps B b w2 w' ∧ St B b T o2 XA dp w w') :
    Calls Tryz.prog 22 #[.pointer (some ⟨b, 0, none⟩), .agg #[.int .i64 20, .slice kp kn kc, .string (txt nm), .string (txt pr), .int .i64 k, .bool bb, .int .i64 n, .string (txt t), .slice pa pl pc]] w fun e w' => e = .returned (.tuple #[]) ∧ St B b T o2 (XA ++ [32, 73, 83, 32, 78, 79, 84, 32, 78, 85, 76, 76]) dp w w' := by
  have hC := fun (w2 : World) (h : St B b T o2 XA dp w w2) => h.says [32, 73, 83, 32, 78, 79, 84, 32, 78, 85, 76, 76] (by decide)
  rw [show txt [32, 73, 83, 32, 78, 79, 84, 32, 78, 85, 76, 76] = ⟨#[32, 73, 83, 32, 78, 79, 84, 32, 78, 85, 76, 76]⟩ from rfl] at hC
  replace hA : Hid _ := hA
  replace hC : Hid _ := hC
  have hb0 := below_new w (.cells #[.int .i64 20, .slice kp kn kc, .string (txt nm), .string (txt pr), .int .i64 k, .bool bb, .int .i64 n, .string (txt t), .slice pa pl pc] 39)
  have hf0 := hf _ hb0
  have hlt : Hid _ := hS.ltb
  have hsz : Hid _ := hS.siz
  replace hb0 : Hid _ := hb0
  replace hf0 : Hid _ := hf0
  replace hS : Hid (St B b T true [] dp w w) := hS
  clear hf
  go_enter Tryz.func22, Tryz.ntmps22
  go_wp2_with fail
  go_at_call 44
  refine Calls.mono hf0.out ?_
  rintro e w1 ⟨rfl, hb1⟩
  have hb2 := below_on hb0.out hb1
  have hS1 := hS.out.below hb2
  have g1 : w1.cell? ⟨b, 2, none⟩ = some (.bool false) := hS1.bad_cell.1
  have hbk1 := (hb1.block w.heap.size (by simp)).trans (heap_alloc_new w (.cells #[.int .i64 20, .slice kp kn kc, .string (txt nm), .string (txt pr), .int .i64 k, .bool bb, .int .i64 n, .string (txt t), .slice pa pl pc] 39))
  have x0 := box_cell hbk1 0
  have x1 := box_cell hbk1 1
  have x2 := box_cell hbk1 2
  have x3 := box_cell hbk1 3
  have x4 := box_cell hbk1 4
  have x5 := box_cell hbk1 5
  have x6 := box_cell hbk1 6
  have x7 := box_cell hbk1 7
  have x8 := box_cell hbk1 8
  simp only [List.getElem?_toArray, List.getElem?_cons_zero, List.getElem?_cons_succ] at x0 x1 x2 x3 x4 x5 x6 x7 x8
  replace hbk1 : Hid _ := hbk1
  replace hb2 : Hid (Below w.heap.size w w1) := hb2
  replace hS1 : Hid (St B b T true [] dp w w1) := hS1
  have hK1 : Hid (Kps B b w w1) := Kps.of hb2.out hsz.out
  go_wp2_with fail
  go_at_call 46
  refine Calls.mono (hA.out w1 hS1.out) ?_
  rintro e w2 ⟨rfl, hK, hS2⟩
  have hbk2 := hK.box hbk1.out (by decide) (by have := hlt.out; omega)
  have y0 := box_cell hbk2 0
  have y1 := box_cell hbk2 1
  have y2 := box_cell hbk2 2
  have y3 := box_cell hbk2 3
  have y4 := box_cell hbk2 4
  have y5 := box_cell hbk2 5
  have y6 := box_cell hbk2 6
  have y7 := box_cell hbk2 7
  have y8 := box_cell hbk2 8
  simp only [List.getElem?_toArray, List.getElem?_cons_zero, List.getElem?_cons_succ] at y0 y1 y2 y3 y4 y5 y6 y7 y8
  replace hbk2 : Hid _ := hbk2
  replace hS2 : Hid (St B b T o2 XA dp w w2) := hS2
  have hK2 : Hid (Kps B b w w2) := hK1.out.trans hK
  clear hK
  go_wp2_with fail
  go_at_call 20
  refine Calls.mono (hC.out w2 hS2.out) ?_
  rintro e w3 ⟨rfl, hK, hS3⟩
  replace hS3 : Hid (St B b T o2 (XA ++ [32, 73, 83, 32, 78, 79, 84, 32, 78, 85, 76, 76]) dp w w3) := hS3
  have hK3 : Hid (Kps B b w w3) := hK2.out.trans hK
  clear hK
  go_wp2_with fail
  exact bodyPost_end (results_none rfl _ _ _) rfl ⟨rfl, hS3.out⟩
set_option maxRecDepth 100000 in
set_option maxHeartbeats 2000000 in
theorem rexpr_lit {XA : List UInt8} {B b : Nat} {T : List UInt8} {dp : Int} (nm pr : List UInt8) (k : Int) (bb : Bool) (n : Int) (t : List UInt8) (kp : Option Addr) (kn kc : Nat) (pa : Option Addr) (pl pc : Nat) (w : World)
    (hS : St B b T true [] dp w w) (hf : ∀ w1, Below w.heap.size w w1 → Calls Tryz.prog 44 #[.agg #[.int .i64 1, .slice kp kn kc, .string (txt nm), .string (txt pr), .int .i64 k, .bool bb, .int .i64 n, .string (txt t), .slice pa pl pc]] w1 fun e w' => e = .returned (.bool true) ∧ Below w1.heap.size w1 w')
    (hA : ∀ w2, St B b T true [] dp w w2 → Calls Tryz.prog 45 #[.pointer (some ⟨b, 0, none⟩), .agg #[.int .i64 k, .bool bb, .int .i64 n, .string (txt t), .slice pa pl pc]] w2 fun e w' => e = .returned (.tuple #[]) ∧ Kps B b w2 w' ∧ St B b T true XA dp w w') :
    Calls Tryz.prog 22 #[.pointer (some ⟨b, 0, none⟩), .agg #[.int .i64 1, .slice kp kn kc, .string (txt nm), .string (txt pr), .int .i64 k, .bool bb, .int .i64 n, .string (txt t), .slice pa pl pc]] w fun e w' => e = .returned (.tuple #[]) ∧ St B b T true XA dp w w' := by
  replace hA : Hid _ := hA
  have hb0 := below_new w (.cells #[.int .i64 1, .slice kp kn kc, .string (txt nm), .string (txt pr), .int .i64 k, .bool bb, .int .i64 n, .string (txt t), .slice pa pl pc] 39)
  have hf0 := hf _ hb0
  have hlt : Hid _ := hS.ltb
  have hsz : Hid _ := hS.siz
  replace hb0 : Hid _ := hb0
  replace hf0 : Hid _ := hf0
  replace hS : Hid (St B b T true [] dp w w) := hS
  clear hf
  go_enter Tryz.func22, Tryz.ntmps22
  go_wp2_with fail
  go_at_call 44
  refine Calls.mono hf0.out ?_
  rintro e w1 ⟨rfl, hb1⟩
  have hb2 := below_on hb0.out hb1
  have hS1 := hS.out.below hb2
  have g1 : w1.cell? ⟨b, 2, none⟩ = some (.bool false) := hS1.bad_cell.1
  have hbk1 := (hb1.block w.heap.size (by simp)).trans (heap_alloc_new w (.cells #[.int .i64 1, .slice kp kn kc, .string (txt nm), .string (txt pr), .int .i64 k, .bool bb, .int .i64 n, .string (txt t), .slice pa pl pc] 39))
  have x0 := box_cell hbk1 0
  have x1 := box_cell hbk1 1
  have x2 := box_cell hbk1 2
  have x3 := box_cell hbk1 3
  have x4 := box_cell hbk1 4
  have x5 := box_cell hbk1 5
  have x6 := box_cell hbk1 6
  have x7 := box_cell hbk1 7
  have x8 := box_cell hbk1 8
  simp only [List.getElem?_toArray, List.getElem?_cons_zero, List.getElem?_cons_succ] at x0 x1 x2 x3 x4 x5 x6 x7 x8
  replace hbk1 : Hid _ := hbk1
  replace hb2 : Hid (Below w.heap.size w w1) := hb2
  replace hS1 : Hid (St B b T true [] dp w w1) := hS1
  have hK1 : Hid (Kps B b w w1) := Kps.of hb2.out hsz.out
  go_wp2_with fail
  go_at_call 45
  refine Calls.mono (hA.out w1 hS1.out) ?_
  rintro e w2 ⟨rfl, hK, hS2⟩
  replace hS2 : Hid (St B b T true XA dp w w2) := hS2
  have hK2 : Hid (Kps B b w w2) := hK1.out.trans hK
  clear hK
  go_wp2_with fail
  exact bodyPost_end (results_none rfl _ _ _) rfl ⟨rfl, hS2.out⟩
set_option maxRecDepth 100000 in
set_option maxHeartbeats 2000000 in
theorem rexpr_call {o2 : Bool} {XA : List UInt8} (op : Int) {B b : Nat} {T : List UInt8} {dp : Int} (nm pr : List UInt8) (k : Int) (bb : Bool) (n : Int) (t : List UInt8) (kp : Option Addr) (kn kc : Nat) (pa : Option Addr) (pl pc : Nat) (w : World)
    (hS : St B b T true [] dp w w) (hf : ∀ w1, Below w.heap.size w w1 → Calls Tryz.prog 44 #[.agg #[.int .i64 op, .slice kp kn kc, .string (txt nm), .string (txt pr), .int .i64 k, .bool bb, .int .i64 n, .string (txt t), .slice pa pl pc]] w1 fun e w' => e = .returned (.bool true) ∧ Below w1.heap.size w1 w') (o21 : 21 ≤ op)
    (hA : ∀ w2, St B b T true [] dp w w2 → Calls Tryz.prog 49 #[.pointer (some ⟨b, 0, none⟩), .agg #[.int .i64 op, .slice kp kn kc, .string (txt nm), .string (txt pr), .int .i64 k, .bool bb, .int .i64 n, .string (txt t), .slice pa pl pc]] w2 fun e w' => e = .returned (.tuple #[]) ∧ Kps B b w2 w' ∧ St B b T o2 XA dp w w') :
    Calls Tryz.prog 22 #[.pointer (some ⟨b, 0, none⟩), .agg #[.int .i64 op, .slice kp kn kc, .string (txt nm), .string (txt pr), .int .i64 k, .bool bb, .int .i64 n, .string (txt t), .slice pa pl pc]] w fun e w' => e = .returned (.tuple #[]) ∧ St B b T o2 XA dp w w' := by
  have e1 : (op == 1) = false := by simp; omega
  have e2 : (op == 2) = false := by simp; omega
  have e3 : (op == 3) = false := by simp; omega
  have e17 : (op == 17) = false := by simp; omega
  have e18 : (op == 18) = false := by simp; omega
  have e19 : (op == 19) = false := by simp; omega
  have e20 : (op == 20) = false := by simp; omega
  have d16 : decide (op ≤ 16) = false := by simp; omega
  replace hA : Hid _ := hA
  have hb0 := below_new w (.cells #[.int .i64 op, .slice kp kn kc, .string (txt nm), .string (txt pr), .int .i64 k, .bool bb, .int .i64 n, .string (txt t), .slice pa pl pc] 39)
  have hf0 := hf _ hb0
  have hlt : Hid _ := hS.ltb
  have hsz : Hid _ := hS.siz
  replace hb0 : Hid _ := hb0
  replace hf0 : Hid _ := hf0
  replace hS : Hid (St B b T true [] dp w w) := hS
  clear hf
  go_enter Tryz.func22, Tryz.ntmps22
  go_wp2_with fail
  go_at_call 44
  refine Calls.mono hf0.out ?_
  rintro e w1 ⟨rfl, hb1⟩
  have hb2 := below_on hb0.out hb1
  have hS1 := hS.out.below hb2
  have g1 : w1.cell? ⟨b, 2, none⟩ = some (.bool false) := hS1.bad_cell.1
  have hbk1 := (hb1.block w.heap.size (by simp)).trans (heap_alloc_new w (.cells #[.int .i64 op, .slice kp kn kc, .string (txt nm), .string (txt pr), .int .i64 k, .bool bb, .int .i64 n, .string (txt t), .slice pa pl pc] 39))
  have x0 := box_cell hbk1 0
  have x1 := box_cell hbk1 1
  have x2 := box_cell hbk1 2
  have x3 := box_cell hbk1 3
  have x4 := box_cell hbk1 4
  have x5 := box_cell hbk1 5
  have x6 := box_cell hbk1 6
  have x7 := box_cell hbk1 7
  have x8 := box_cell hbk1 8
  simp only [List.getElem?_toArray, List.getElem?_cons_zero, List.getElem?_cons_succ] at x0 x1 x2 x3 x4 x5 x6 x7 x8
  replace hbk1 : Hid _ := hbk1
  replace hb2 : Hid (Below w.heap.size w w1) := hb2
  replace hS1 : Hid (St B b T true [] dp w w1) := hS1
  have hK1 : Hid (Kps B b w w1) := Kps.of hb2.out hsz.out
  go_wp2_with fail
  go_at_call 49
  refine Calls.mono (hA.out w1 hS1.out) ?_
  rintro e w2 ⟨rfl, hK, hS2⟩
  replace hS2 : Hid (St B b T o2 XA dp w w2) := hS2
  have hK2 : Hid (Kps B b w w2) := hK1.out.trans hK
  clear hK
  go_wp2_with fail
  exact bodyPost_end (results_none rfl _ _ _) rfl ⟨rfl, hS2.out⟩
end Go.Proofs.YtkcnpbckmdgfnaaGreatDoor
namespace Go.Proofs.YtkcnpbckmdgfnaaGreatDoor
open Go.ChangeShapes Go.WideShapes Go.ChangeAt Go.RowKit
set_option linter.unusedSimpArgs false
set_option linter.unusedVariables false

set_option maxRecDepth 100000 in
set_option maxHeartbeats 2000000 in
theorem call_length {o1 o2 : Bool} {XA : List UInt8} (cop : Int) (cnm cpr : List UInt8) (ck : Int) (cb : Bool) (cn : Int) (ct : List UInt8) (ka : Option Addr) (kl kq : Nat) (ca : Option Addr) (cl cc : Nat) {B b : Nat} {T : List UInt8} {dp : Int} (nm pr : List UInt8) (k : Int) (bb : Bool) (n : Int) (t : List UInt8) (g o kn kc : Nat) (pa : Option Addr) (pl pc : Nat) (w : World)
    (hS : St B b T true [] dp w w) (hkn : 0 < kn) (h0 : 0 ≤ dp) (h1 : dp ≤ 1000)
    (hN : ∀ w2, Kps B b w w2 → Nine w2 g o cop cnm cpr ck cb cn ct (.slice ka kl kq) (.slice ca cl cc))
    (hD : ∀ w2, St B b T true [] dp w w2 → Calls Tryz.prog 48 #[.pointer (some ⟨b, 0, none⟩)] w2 fun e w' => e = .returned (.tuple #[]) ∧ Kps B b w2 w' ∧ St B b T o1 [] (dp + 1) w w')
    (hA : ∀ w2, St B b T o1 [76, 69, 78, 71, 84, 72, 40] (dp + 1) w w2 → Calls Tryz.prog 22 #[.pointer (some ⟨b, 0, none⟩), .agg #[.int .i64 cop, .slice ka kl kq, .string (txt cnm), .string (txt cpr), .int .i64 ck, .bool cb, .int .i64 cn, .string (txt ct), .slice ca cl cc]] w2 fun e w' => e = .returned (.tuple #[]) ∧ Kps B b w2 w' ∧ St B b T o2 XA (dp + 1) w w') :
    Calls Tryz.prog 49 #[.pointer (some ⟨b, 0, none⟩), .agg #[.int .i64 21, .slice (some ⟨g, o, none⟩) kn kc, .string (txt nm), .string (txt pr), .int .i64 k, .bool bb, .int .i64 n, .string (txt t), .slice pa pl pc]] w fun e w' => e = .returned (.tuple #[]) ∧ St B b T o2 (XA ++ [41]) dp w w' := by
  have hC := fun (w2 : World) (h : St B b T o1 [] (dp + 1) w w2) => h.says [76, 69, 78, 71, 84, 72, 40] (by decide)
  rw [show txt [76, 69, 78, 71, 84, 72, 40] = ⟨#[76, 69, 78, 71, 84, 72, 40]⟩ from rfl] at hC
  have hE := fun (w2 : World) (h : St B b T o2 XA (dp + 1) w w2) => h.says [41] (by decide)
  rw [show txt [41] = ⟨#[41]⟩ from rfl] at hE
  have hb9 : dp + 1 - 1 = dp := by omega
  replace hD : Hid _ := hD
  replace hN : Hid _ := hN
  replace hA : Hid _ := hA
  replace hC : Hid _ := hC
  replace hE : Hid _ := hE
  have hb0 := below_new w (.cells #[.int .i64 21, .slice (some ⟨g, o, none⟩) kn kc, .string (txt nm), .string (txt pr), .int .i64 k, .bool bb, .int .i64 n, .string (txt t), .slice pa pl pc] 39)
  have hlt : Hid _ := hS.ltb
  have hsz : Hid _ := hS.siz
  have hS1 := hS.below hb0
  have hbk1 := heap_alloc_new w (.cells #[.int .i64 21, .slice (some ⟨g, o, none⟩) kn kc, .string (txt nm), .string (txt pr), .int .i64 k, .bool bb, .int .i64 n, .string (txt t), .slice pa pl pc] 39)
  have hK1 : Hid (Kps B b w (w.alloc (.cells #[.int .i64 21, .slice (some ⟨g, o, none⟩) kn kc, .string (txt nm), .string (txt pr), .int .i64 k, .bool bb, .int .i64 n, .string (txt t), .slice pa pl pc] 39))) := Kps.of hb0 hsz.out
  replace hbk1 : Hid _ := hbk1
  replace hS1 : Hid (St B b T true [] dp w (w.alloc (.cells #[.int .i64 21, .slice (some ⟨g, o, none⟩) kn kc, .string (txt nm), .string (txt pr), .int .i64 k, .bool bb, .int .i64 n, .string (txt t), .slice pa pl pc] 39))) := hS1
  go_enter Tryz.func49, Tryz.ntmps49
  go_wp2_with fail
  go_at_call 48
  refine Calls.mono (hD.out _ hS1.out) ?_
  rintro e w2 ⟨rfl, hK, hS2⟩
  have hbk2 := hK.box hbk1.out (by decide) (by have := hlt.out; omega)
  have y0 := box_cell hbk2 0
  have y1 := box_cell hbk2 1
  have y2 := box_cell hbk2 2
  have y3 := box_cell hbk2 3
  have y4 := box_cell hbk2 4
  have y5 := box_cell hbk2 5
  have y6 := box_cell hbk2 6
  have y7 := box_cell hbk2 7
  have y8 := box_cell hbk2 8
  simp only [List.getElem?_toArray, List.getElem?_cons_zero, List.getElem?_cons_succ] at y0 y1 y2 y3 y4 y5 y6 y7 y8
  replace hbk2 : Hid _ := hbk2
  replace hS2 : Hid (St B b T o1 [] (dp + 1) w w2) := hS2
  have hK2 : Hid (Kps B b w w2) := hK1.out.trans hK
  clear hK hK1 hbk1 hS1 hb0
  go_wp2_with fail
  go_at_call 20
  refine Calls.mono (hC.out w2 hS2.out) ?_
  rintro e w3 ⟨rfl, hK, hS3⟩
  have hbk3 := hK.box hbk2.out (by decide) (by have := hlt.out; omega)
  have z0 := box_cell hbk3 0
  have z1 := box_cell hbk3 1
  have z2 := box_cell hbk3 2
  have z3 := box_cell hbk3 3
  have z4 := box_cell hbk3 4
  have z5 := box_cell hbk3 5
  have z6 := box_cell hbk3 6
  have z7 := box_cell hbk3 7
  have z8 := box_cell hbk3 8
  simp only [List.getElem?_toArray, List.getElem?_cons_zero, List.getElem?_cons_succ] at z0 z1 z2 z3 z4 z5 z6 z7 z8
  replace hbk3 : Hid _ := hbk3
  replace hS3 : Hid (St B b T o1 [76, 69, 78, 71, 84, 72, 40] (dp + 1) w w3) := hS3
  have hK3 : Hid (Kps B b w w3) := hK2.out.trans hK
  clear hK
  obtain ⟨q0, q1, q2, q3, q4, q5, q6, q7, q8⟩ := hN.out w3 hK3.out
  go_wp2_with fail
  go_at_call 22
  refine Calls.mono (hA.out w3 hS3.out) ?_
  rintro e w4 ⟨rfl, hK, hS4⟩
  replace hS4 : Hid (St B b T o2 XA (dp + 1) w w4) := hS4
  have hK4 : Hid (Kps B b w w4) := hK3.out.trans hK
  clear hK
  go_wp2_with fail
  go_at_call 20
  refine Calls.mono (hE.out w4 hS4.out) ?_
  rintro e w5 ⟨rfl, hK, hS5⟩
  replace hS5 : Hid (St B b T o2 (XA ++ [41]) (dp + 1) w w5) := hS5
  have hK5 : Hid (Kps B b w w5) := hK4.out.trans hK
  clear hK
  have g1 := hS5.out.deep_cell.1
  have g2 := hS5.out.deep_cell.2
  have hF := hS5.out.deep dp
  replace hF : Hid _ := hF
  go_wp2_with fail
  exact bodyPost_end (results_none rfl _ _ _) rfl ⟨rfl, hF.out⟩
set_option maxRecDepth 100000 in
set_option maxHeartbeats 2000000 in
theorem call_count {o1 o2 : Bool} {XA : List UInt8} (cop : Int) (cnm cpr : List UInt8) (ck : Int) (cb : Bool) (cn : Int) (ct : List UInt8) (ka : Option Addr) (kl kq : Nat) (ca : Option Addr) (cl cc : Nat) {B b : Nat} {T : List UInt8} {dp : Int} (nm pr : List UInt8) (k : Int) (bb : Bool) (n : Int) (t : List UInt8) (g o kn kc : Nat) (pa : Option Addr) (pl pc : Nat) (w : World)
    (hS : St B b T true [] dp w w) (hkn : 0 < kn) (h0 : 0 ≤ dp) (h1 : dp ≤ 1000)
    (hN : ∀ w2, Kps B b w w2 → Nine w2 g o cop cnm cpr ck cb cn ct (.slice ka kl kq) (.slice ca cl cc))
    (hD : ∀ w2, St B b T true [] dp w w2 → Calls Tryz.prog 48 #[.pointer (some ⟨b, 0, none⟩)] w2 fun e w' => e = .returned (.tuple #[]) ∧ Kps B b w2 w' ∧ St B b T o1 [] (dp + 1) w w')
    (hA : ∀ w2, St B b T o1 [67, 79, 85, 78, 84, 40] (dp + 1) w w2 → Calls Tryz.prog 22 #[.pointer (some ⟨b, 0, none⟩), .agg #[.int .i64 cop, .slice ka kl kq, .string (txt cnm), .string (txt cpr), .int .i64 ck, .bool cb, .int .i64 cn, .string (txt ct), .slice ca cl cc]] w2 fun e w' => e = .returned (.tuple #[]) ∧ Kps B b w2 w' ∧ St B b T o2 XA (dp + 1) w w') :
    Calls Tryz.prog 49 #[.pointer (some ⟨b, 0, none⟩), .agg #[.int .i64 22, .slice (some ⟨g, o, none⟩) kn kc, .string (txt nm), .string (txt pr), .int .i64 k, .bool bb, .int .i64 n, .string (txt t), .slice pa pl pc]] w fun e w' => e = .returned (.tuple #[]) ∧ St B b T o2 (XA ++ [41]) dp w w' := by
  have hC := fun (w2 : World) (h : St B b T o1 [] (dp + 1) w w2) => h.says [67, 79, 85, 78, 84, 40] (by decide)
  rw [show txt [67, 79, 85, 78, 84, 40] = ⟨#[67, 79, 85, 78, 84, 40]⟩ from rfl] at hC
  have hE := fun (w2 : World) (h : St B b T o2 XA (dp + 1) w w2) => h.says [41] (by decide)
  rw [show txt [41] = ⟨#[41]⟩ from rfl] at hE
  have hb9 : dp + 1 - 1 = dp := by omega
  replace hD : Hid _ := hD
  replace hN : Hid _ := hN
  replace hA : Hid _ := hA
  replace hC : Hid _ := hC
  replace hE : Hid _ := hE
  have hb0 := below_new w (.cells #[.int .i64 22, .slice (some ⟨g, o, none⟩) kn kc, .string (txt nm), .string (txt pr), .int .i64 k, .bool bb, .int .i64 n, .string (txt t), .slice pa pl pc] 39)
  have hlt : Hid _ := hS.ltb
  have hsz : Hid _ := hS.siz
  have hS1 := hS.below hb0
  have hbk1 := heap_alloc_new w (.cells #[.int .i64 22, .slice (some ⟨g, o, none⟩) kn kc, .string (txt nm), .string (txt pr), .int .i64 k, .bool bb, .int .i64 n, .string (txt t), .slice pa pl pc] 39)
  have hK1 : Hid (Kps B b w (w.alloc (.cells #[.int .i64 22, .slice (some ⟨g, o, none⟩) kn kc, .string (txt nm), .string (txt pr), .int .i64 k, .bool bb, .int .i64 n, .string (txt t), .slice pa pl pc] 39))) := Kps.of hb0 hsz.out
  replace hbk1 : Hid _ := hbk1
  replace hS1 : Hid (St B b T true [] dp w (w.alloc (.cells #[.int .i64 22, .slice (some ⟨g, o, none⟩) kn kc, .string (txt nm), .string (txt pr), .int .i64 k, .bool bb, .int .i64 n, .string (txt t), .slice pa pl pc] 39))) := hS1
  go_enter Tryz.func49, Tryz.ntmps49
  go_wp2_with fail
  go_at_call 48
  refine Calls.mono (hD.out _ hS1.out) ?_
  rintro e w2 ⟨rfl, hK, hS2⟩
  have hbk2 := hK.box hbk1.out (by decide) (by have := hlt.out; omega)
  have y0 := box_cell hbk2 0
  have y1 := box_cell hbk2 1
  have y2 := box_cell hbk2 2
  have y3 := box_cell hbk2 3
  have y4 := box_cell hbk2 4
  have y5 := box_cell hbk2 5
  have y6 := box_cell hbk2 6
  have y7 := box_cell hbk2 7
  have y8 := box_cell hbk2 8
  simp only [List.getElem?_toArray, List.getElem?_cons_zero, List.getElem?_cons_succ] at y0 y1 y2 y3 y4 y5 y6 y7 y8
  replace hbk2 : Hid _ := hbk2
  replace hS2 : Hid (St B b T o1 [] (dp + 1) w w2) := hS2
  have hK2 : Hid (Kps B b w w2) := hK1.out.trans hK
  clear hK hK1 hbk1 hS1 hb0
  go_wp2_with fail
  go_at_call 20
  refine Calls.mono (hC.out w2 hS2.out) ?_
  rintro e w3 ⟨rfl, hK, hS3⟩
  have hbk3 := hK.box hbk2.out (by decide) (by have := hlt.out; omega)
  have z0 := box_cell hbk3 0
  have z1 := box_cell hbk3 1
  have z2 := box_cell hbk3 2
  have z3 := box_cell hbk3 3
  have z4 := box_cell hbk3 4
  have z5 := box_cell hbk3 5
  have z6 := box_cell hbk3 6
  have z7 := box_cell hbk3 7
  have z8 := box_cell hbk3 8
  simp only [List.getElem?_toArray, List.getElem?_cons_zero, List.getElem?_cons_succ] at z0 z1 z2 z3 z4 z5 z6 z7 z8
  replace hbk3 : Hid _ := hbk3
  replace hS3 : Hid (St B b T o1 [67, 79, 85, 78, 84, 40] (dp + 1) w w3) := hS3
  have hK3 : Hid (Kps B b w w3) := hK2.out.trans hK
  clear hK
  obtain ⟨q0, q1, q2, q3, q4, q5, q6, q7, q8⟩ := hN.out w3 hK3.out
  go_wp2_with fail
  go_at_call 22
  refine Calls.mono (hA.out w3 hS3.out) ?_
  rintro e w4 ⟨rfl, hK, hS4⟩
  replace hS4 : Hid (St B b T o2 XA (dp + 1) w w4) := hS4
  have hK4 : Hid (Kps B b w w4) := hK3.out.trans hK
  clear hK
  go_wp2_with fail
  go_at_call 20
  refine Calls.mono (hE.out w4 hS4.out) ?_
  rintro e w5 ⟨rfl, hK, hS5⟩
  replace hS5 : Hid (St B b T o2 (XA ++ [41]) (dp + 1) w w5) := hS5
  have hK5 : Hid (Kps B b w w5) := hK4.out.trans hK
  clear hK
  have g1 := hS5.out.deep_cell.1
  have g2 := hS5.out.deep_cell.2
  have hF := hS5.out.deep dp
  replace hF : Hid _ := hF
  go_wp2_with fail
  exact bodyPost_end (results_none rfl _ _ _) rfl ⟨rfl, hF.out⟩
set_option maxRecDepth 100000 in
set_option maxHeartbeats 2000000 in
theorem call_sum {o1 o2 : Bool} {XA : List UInt8} (cop : Int) (cnm cpr : List UInt8) (ck : Int) (cb : Bool) (cn : Int) (ct : List UInt8) (ka : Option Addr) (kl kq : Nat) (ca : Option Addr) (cl cc : Nat) {B b : Nat} {T : List UInt8} {dp : Int} (nm pr : List UInt8) (k : Int) (bb : Bool) (n : Int) (t : List UInt8) (g o kn kc : Nat) (pa : Option Addr) (pl pc : Nat) (w : World)
    (hS : St B b T true [] dp w w) (hkn : 0 < kn) (h0 : 0 ≤ dp) (h1 : dp ≤ 1000)
    (hN : ∀ w2, Kps B b w w2 → Nine w2 g o cop cnm cpr ck cb cn ct (.slice ka kl kq) (.slice ca cl cc))
    (hD : ∀ w2, St B b T true [] dp w w2 → Calls Tryz.prog 48 #[.pointer (some ⟨b, 0, none⟩)] w2 fun e w' => e = .returned (.tuple #[]) ∧ Kps B b w2 w' ∧ St B b T o1 [] (dp + 1) w w')
    (hA : ∀ w2, St B b T o1 [83, 85, 77, 40] (dp + 1) w w2 → Calls Tryz.prog 22 #[.pointer (some ⟨b, 0, none⟩), .agg #[.int .i64 cop, .slice ka kl kq, .string (txt cnm), .string (txt cpr), .int .i64 ck, .bool cb, .int .i64 cn, .string (txt ct), .slice ca cl cc]] w2 fun e w' => e = .returned (.tuple #[]) ∧ Kps B b w2 w' ∧ St B b T o2 XA (dp + 1) w w') :
    Calls Tryz.prog 49 #[.pointer (some ⟨b, 0, none⟩), .agg #[.int .i64 23, .slice (some ⟨g, o, none⟩) kn kc, .string (txt nm), .string (txt pr), .int .i64 k, .bool bb, .int .i64 n, .string (txt t), .slice pa pl pc]] w fun e w' => e = .returned (.tuple #[]) ∧ St B b T o2 (XA ++ [41]) dp w w' := by
  have hC := fun (w2 : World) (h : St B b T o1 [] (dp + 1) w w2) => h.says [83, 85, 77, 40] (by decide)
  rw [show txt [83, 85, 77, 40] = ⟨#[83, 85, 77, 40]⟩ from rfl] at hC
  have hE := fun (w2 : World) (h : St B b T o2 XA (dp + 1) w w2) => h.says [41] (by decide)
  rw [show txt [41] = ⟨#[41]⟩ from rfl] at hE
  have hb9 : dp + 1 - 1 = dp := by omega
  replace hD : Hid _ := hD
  replace hN : Hid _ := hN
  replace hA : Hid _ := hA
  replace hC : Hid _ := hC
  replace hE : Hid _ := hE
  have hb0 := below_new w (.cells #[.int .i64 23, .slice (some ⟨g, o, none⟩) kn kc, .string (txt nm), .string (txt pr), .int .i64 k, .bool bb, .int .i64 n, .string (txt t), .slice pa pl pc] 39)
  have hlt : Hid _ := hS.ltb
  have hsz : Hid _ := hS.siz
  have hS1 := hS.below hb0
  have hbk1 := heap_alloc_new w (.cells #[.int .i64 23, .slice (some ⟨g, o, none⟩) kn kc, .string (txt nm), .string (txt pr), .int .i64 k, .bool bb, .int .i64 n, .string (txt t), .slice pa pl pc] 39)
  have hK1 : Hid (Kps B b w (w.alloc (.cells #[.int .i64 23, .slice (some ⟨g, o, none⟩) kn kc, .string (txt nm), .string (txt pr), .int .i64 k, .bool bb, .int .i64 n, .string (txt t), .slice pa pl pc] 39))) := Kps.of hb0 hsz.out
  replace hbk1 : Hid _ := hbk1
  replace hS1 : Hid (St B b T true [] dp w (w.alloc (.cells #[.int .i64 23, .slice (some ⟨g, o, none⟩) kn kc, .string (txt nm), .string (txt pr), .int .i64 k, .bool bb, .int .i64 n, .string (txt t), .slice pa pl pc] 39))) := hS1
  go_enter Tryz.func49, Tryz.ntmps49
  go_wp2_with fail
  go_at_call 48
  refine Calls.mono (hD.out _ hS1.out) ?_
  rintro e w2 ⟨rfl, hK, hS2⟩
  have hbk2 := hK.box hbk1.out (by decide) (by have := hlt.out; omega)
  have y0 := box_cell hbk2 0
  have y1 := box_cell hbk2 1
  have y2 := box_cell hbk2 2
  have y3 := box_cell hbk2 3
  have y4 := box_cell hbk2 4
  have y5 := box_cell hbk2 5
  have y6 := box_cell hbk2 6
  have y7 := box_cell hbk2 7
  have y8 := box_cell hbk2 8
  simp only [List.getElem?_toArray, List.getElem?_cons_zero, List.getElem?_cons_succ] at y0 y1 y2 y3 y4 y5 y6 y7 y8
  replace hbk2 : Hid _ := hbk2
  replace hS2 : Hid (St B b T o1 [] (dp + 1) w w2) := hS2
  have hK2 : Hid (Kps B b w w2) := hK1.out.trans hK
  clear hK hK1 hbk1 hS1 hb0
  go_wp2_with fail
  go_at_call 20
  refine Calls.mono (hC.out w2 hS2.out) ?_
  rintro e w3 ⟨rfl, hK, hS3⟩
  have hbk3 := hK.box hbk2.out (by decide) (by have := hlt.out; omega)
  have z0 := box_cell hbk3 0
  have z1 := box_cell hbk3 1
  have z2 := box_cell hbk3 2
  have z3 := box_cell hbk3 3
  have z4 := box_cell hbk3 4
  have z5 := box_cell hbk3 5
  have z6 := box_cell hbk3 6
  have z7 := box_cell hbk3 7
  have z8 := box_cell hbk3 8
  simp only [List.getElem?_toArray, List.getElem?_cons_zero, List.getElem?_cons_succ] at z0 z1 z2 z3 z4 z5 z6 z7 z8
  replace hbk3 : Hid _ := hbk3
  replace hS3 : Hid (St B b T o1 [83, 85, 77, 40] (dp + 1) w w3) := hS3
  have hK3 : Hid (Kps B b w w3) := hK2.out.trans hK
  clear hK
  obtain ⟨q0, q1, q2, q3, q4, q5, q6, q7, q8⟩ := hN.out w3 hK3.out
  go_wp2_with fail
  go_at_call 22
  refine Calls.mono (hA.out w3 hS3.out) ?_
  rintro e w4 ⟨rfl, hK, hS4⟩
  replace hS4 : Hid (St B b T o2 XA (dp + 1) w w4) := hS4
  have hK4 : Hid (Kps B b w w4) := hK3.out.trans hK
  clear hK
  go_wp2_with fail
  go_at_call 20
  refine Calls.mono (hE.out w4 hS4.out) ?_
  rintro e w5 ⟨rfl, hK, hS5⟩
  replace hS5 : Hid (St B b T o2 (XA ++ [41]) (dp + 1) w w5) := hS5
  have hK5 : Hid (Kps B b w w5) := hK4.out.trans hK
  clear hK
  have g1 := hS5.out.deep_cell.1
  have g2 := hS5.out.deep_cell.2
  have hF := hS5.out.deep dp
  replace hF : Hid _ := hF
  go_wp2_with fail
  exact bodyPost_end (results_none rfl _ _ _) rfl ⟨rfl, hF.out⟩
set_option maxRecDepth 100000 in
set_option maxHeartbeats 2000000 in
theorem call_min {o1 o2 : Bool} {XA : List UInt8} (cop : Int) (cnm cpr : List UInt8) (ck : Int) (cb : Bool) (cn : Int) (ct : List UInt8) (ka : Option Addr) (kl kq : Nat) (ca : Option Addr) (cl cc : Nat) {B b : Nat} {T : List UInt8} {dp : Int} (nm pr : List UInt8) (k : Int) (bb : Bool) (n : Int) (t : List UInt8) (g o kn kc : Nat) (pa : Option Addr) (pl pc : Nat) (w : World)
    (hS : St B b T true [] dp w w) (hkn : 0 < kn) (h0 : 0 ≤ dp) (h1 : dp ≤ 1000)
    (hN : ∀ w2, Kps B b w w2 → Nine w2 g o cop cnm cpr ck cb cn ct (.slice ka kl kq) (.slice ca cl cc))
    (hD : ∀ w2, St B b T true [] dp w w2 → Calls Tryz.prog 48 #[.pointer (some ⟨b, 0, none⟩)] w2 fun e w' => e = .returned (.tuple #[]) ∧ Kps B b w2 w' ∧ St B b T o1 [] (dp + 1) w w')
    (hA : ∀ w2, St B b T o1 [77, 73, 78, 40] (dp + 1) w w2 → Calls Tryz.prog 22 #[.pointer (some ⟨b, 0, none⟩), .agg #[.int .i64 cop, .slice ka kl kq, .string (txt cnm), .string (txt cpr), .int .i64 ck, .bool cb, .int .i64 cn, .string (txt ct), .slice ca cl cc]] w2 fun e w' => e = .returned (.tuple #[]) ∧ Kps B b w2 w' ∧ St B b T o2 XA (dp + 1) w w') :
    Calls Tryz.prog 49 #[.pointer (some ⟨b, 0, none⟩), .agg #[.int .i64 24, .slice (some ⟨g, o, none⟩) kn kc, .string (txt nm), .string (txt pr), .int .i64 k, .bool bb, .int .i64 n, .string (txt t), .slice pa pl pc]] w fun e w' => e = .returned (.tuple #[]) ∧ St B b T o2 (XA ++ [41]) dp w w' := by
  have hC := fun (w2 : World) (h : St B b T o1 [] (dp + 1) w w2) => h.says [77, 73, 78, 40] (by decide)
  rw [show txt [77, 73, 78, 40] = ⟨#[77, 73, 78, 40]⟩ from rfl] at hC
  have hE := fun (w2 : World) (h : St B b T o2 XA (dp + 1) w w2) => h.says [41] (by decide)
  rw [show txt [41] = ⟨#[41]⟩ from rfl] at hE
  have hb9 : dp + 1 - 1 = dp := by omega
  replace hD : Hid _ := hD
  replace hN : Hid _ := hN
  replace hA : Hid _ := hA
  replace hC : Hid _ := hC
  replace hE : Hid _ := hE
  have hb0 := below_new w (.cells #[.int .i64 24, .slice (some ⟨g, o, none⟩) kn kc, .string (txt nm), .string (txt pr), .int .i64 k, .bool bb, .int .i64 n, .string (txt t), .slice pa pl pc] 39)
  have hlt : Hid _ := hS.ltb
  have hsz : Hid _ := hS.siz
  have hS1 := hS.below hb0
  have hbk1 := heap_alloc_new w (.cells #[.int .i64 24, .slice (some ⟨g, o, none⟩) kn kc, .string (txt nm), .string (txt pr), .int .i64 k, .bool bb, .int .i64 n, .string (txt t), .slice pa pl pc] 39)
  have hK1 : Hid (Kps B b w (w.alloc (.cells #[.int .i64 24, .slice (some ⟨g, o, none⟩) kn kc, .string (txt nm), .string (txt pr), .int .i64 k, .bool bb, .int .i64 n, .string (txt t), .slice pa pl pc] 39))) := Kps.of hb0 hsz.out
  replace hbk1 : Hid _ := hbk1
  replace hS1 : Hid (St B b T true [] dp w (w.alloc (.cells #[.int .i64 24, .slice (some ⟨g, o, none⟩) kn kc, .string (txt nm), .string (txt pr), .int .i64 k, .bool bb, .int .i64 n, .string (txt t), .slice pa pl pc] 39))) := hS1
  go_enter Tryz.func49, Tryz.ntmps49
  go_wp2_with fail
  go_at_call 48
  refine Calls.mono (hD.out _ hS1.out) ?_
  rintro e w2 ⟨rfl, hK, hS2⟩
  have hbk2 := hK.box hbk1.out (by decide) (by have := hlt.out; omega)
  have y0 := box_cell hbk2 0
  have y1 := box_cell hbk2 1
  have y2 := box_cell hbk2 2
  have y3 := box_cell hbk2 3
  have y4 := box_cell hbk2 4
  have y5 := box_cell hbk2 5
  have y6 := box_cell hbk2 6
  have y7 := box_cell hbk2 7
  have y8 := box_cell hbk2 8
  simp only [List.getElem?_toArray, List.getElem?_cons_zero, List.getElem?_cons_succ] at y0 y1 y2 y3 y4 y5 y6 y7 y8
  replace hbk2 : Hid _ := hbk2
  replace hS2 : Hid (St B b T o1 [] (dp + 1) w w2) := hS2
  have hK2 : Hid (Kps B b w w2) := hK1.out.trans hK
  clear hK hK1 hbk1 hS1 hb0
  go_wp2_with fail
  go_at_call 20
  refine Calls.mono (hC.out w2 hS2.out) ?_
  rintro e w3 ⟨rfl, hK, hS3⟩
  have hbk3 := hK.box hbk2.out (by decide) (by have := hlt.out; omega)
  have z0 := box_cell hbk3 0
  have z1 := box_cell hbk3 1
  have z2 := box_cell hbk3 2
  have z3 := box_cell hbk3 3
  have z4 := box_cell hbk3 4
  have z5 := box_cell hbk3 5
  have z6 := box_cell hbk3 6
  have z7 := box_cell hbk3 7
  have z8 := box_cell hbk3 8
  simp only [List.getElem?_toArray, List.getElem?_cons_zero, List.getElem?_cons_succ] at z0 z1 z2 z3 z4 z5 z6 z7 z8
  replace hbk3 : Hid _ := hbk3
  replace hS3 : Hid (St B b T o1 [77, 73, 78, 40] (dp + 1) w w3) := hS3
  have hK3 : Hid (Kps B b w w3) := hK2.out.trans hK
  clear hK
  obtain ⟨q0, q1, q2, q3, q4, q5, q6, q7, q8⟩ := hN.out w3 hK3.out
  go_wp2_with fail
  go_at_call 22
  refine Calls.mono (hA.out w3 hS3.out) ?_
  rintro e w4 ⟨rfl, hK, hS4⟩
  replace hS4 : Hid (St B b T o2 XA (dp + 1) w w4) := hS4
  have hK4 : Hid (Kps B b w w4) := hK3.out.trans hK
  clear hK
  go_wp2_with fail
  go_at_call 20
  refine Calls.mono (hE.out w4 hS4.out) ?_
  rintro e w5 ⟨rfl, hK, hS5⟩
  replace hS5 : Hid (St B b T o2 (XA ++ [41]) (dp + 1) w w5) := hS5
  have hK5 : Hid (Kps B b w w5) := hK4.out.trans hK
  clear hK
  have g1 := hS5.out.deep_cell.1
  have g2 := hS5.out.deep_cell.2
  have hF := hS5.out.deep dp
  replace hF : Hid _ := hF
  go_wp2_with fail
  exact bodyPost_end (results_none rfl _ _ _) rfl ⟨rfl, hF.out⟩
set_option maxRecDepth 100000 in
set_option maxHeartbeats 2000000 in
theorem call_max {o1 o2 : Bool} {XA : List UInt8} (cop : Int) (cnm cpr : List UInt8) (ck : Int) (cb : Bool) (cn : Int) (ct : List UInt8) (ka : Option Addr) (kl kq : Nat) (ca : Option Addr) (cl cc : Nat) {B b : Nat} {T : List UInt8} {dp : Int} (nm pr : List UInt8) (k : Int) (bb : Bool) (n : Int) (t : List UInt8) (g o kn kc : Nat) (pa : Option Addr) (pl pc : Nat) (w : World)
    (hS : St B b T true [] dp w w) (hkn : 0 < kn) (h0 : 0 ≤ dp) (h1 : dp ≤ 1000)
    (hN : ∀ w2, Kps B b w w2 → Nine w2 g o cop cnm cpr ck cb cn ct (.slice ka kl kq) (.slice ca cl cc))
    (hD : ∀ w2, St B b T true [] dp w w2 → Calls Tryz.prog 48 #[.pointer (some ⟨b, 0, none⟩)] w2 fun e w' => e = .returned (.tuple #[]) ∧ Kps B b w2 w' ∧ St B b T o1 [] (dp + 1) w w')
    (hA : ∀ w2, St B b T o1 [77, 65, 88, 40] (dp + 1) w w2 → Calls Tryz.prog 22 #[.pointer (some ⟨b, 0, none⟩), .agg #[.int .i64 cop, .slice ka kl kq, .string (txt cnm), .string (txt cpr), .int .i64 ck, .bool cb, .int .i64 cn, .string (txt ct), .slice ca cl cc]] w2 fun e w' => e = .returned (.tuple #[]) ∧ Kps B b w2 w' ∧ St B b T o2 XA (dp + 1) w w') :
    Calls Tryz.prog 49 #[.pointer (some ⟨b, 0, none⟩), .agg #[.int .i64 25, .slice (some ⟨g, o, none⟩) kn kc, .string (txt nm), .string (txt pr), .int .i64 k, .bool bb, .int .i64 n, .string (txt t), .slice pa pl pc]] w fun e w' => e = .returned (.tuple #[]) ∧ St B b T o2 (XA ++ [41]) dp w w' := by
  have hC := fun (w2 : World) (h : St B b T o1 [] (dp + 1) w w2) => h.says [77, 65, 88, 40] (by decide)
  rw [show txt [77, 65, 88, 40] = ⟨#[77, 65, 88, 40]⟩ from rfl] at hC
  have hE := fun (w2 : World) (h : St B b T o2 XA (dp + 1) w w2) => h.says [41] (by decide)
  rw [show txt [41] = ⟨#[41]⟩ from rfl] at hE
  have hb9 : dp + 1 - 1 = dp := by omega
  replace hD : Hid _ := hD
  replace hN : Hid _ := hN
  replace hA : Hid _ := hA
  replace hC : Hid _ := hC
  replace hE : Hid _ := hE
  have hb0 := below_new w (.cells #[.int .i64 25, .slice (some ⟨g, o, none⟩) kn kc, .string (txt nm), .string (txt pr), .int .i64 k, .bool bb, .int .i64 n, .string (txt t), .slice pa pl pc] 39)
  have hlt : Hid _ := hS.ltb
  have hsz : Hid _ := hS.siz
  have hS1 := hS.below hb0
  have hbk1 := heap_alloc_new w (.cells #[.int .i64 25, .slice (some ⟨g, o, none⟩) kn kc, .string (txt nm), .string (txt pr), .int .i64 k, .bool bb, .int .i64 n, .string (txt t), .slice pa pl pc] 39)
  have hK1 : Hid (Kps B b w (w.alloc (.cells #[.int .i64 25, .slice (some ⟨g, o, none⟩) kn kc, .string (txt nm), .string (txt pr), .int .i64 k, .bool bb, .int .i64 n, .string (txt t), .slice pa pl pc] 39))) := Kps.of hb0 hsz.out
  replace hbk1 : Hid _ := hbk1
  replace hS1 : Hid (St B b T true [] dp w (w.alloc (.cells #[.int .i64 25, .slice (some ⟨g, o, none⟩) kn kc, .string (txt nm), .string (txt pr), .int .i64 k, .bool bb, .int .i64 n, .string (txt t), .slice pa pl pc] 39))) := hS1
  go_enter Tryz.func49, Tryz.ntmps49
  go_wp2_with fail
  go_at_call 48
  refine Calls.mono (hD.out _ hS1.out) ?_
  rintro e w2 ⟨rfl, hK, hS2⟩
  have hbk2 := hK.box hbk1.out (by decide) (by have := hlt.out; omega)
  have y0 := box_cell hbk2 0
  have y1 := box_cell hbk2 1
  have y2 := box_cell hbk2 2
  have y3 := box_cell hbk2 3
  have y4 := box_cell hbk2 4
  have y5 := box_cell hbk2 5
  have y6 := box_cell hbk2 6
  have y7 := box_cell hbk2 7
  have y8 := box_cell hbk2 8
  simp only [List.getElem?_toArray, List.getElem?_cons_zero, List.getElem?_cons_succ] at y0 y1 y2 y3 y4 y5 y6 y7 y8
  replace hbk2 : Hid _ := hbk2
  replace hS2 : Hid (St B b T o1 [] (dp + 1) w w2) := hS2
  have hK2 : Hid (Kps B b w w2) := hK1.out.trans hK
  clear hK hK1 hbk1 hS1 hb0
  go_wp2_with fail
  go_at_call 20
  refine Calls.mono (hC.out w2 hS2.out) ?_
  rintro e w3 ⟨rfl, hK, hS3⟩
  have hbk3 := hK.box hbk2.out (by decide) (by have := hlt.out; omega)
  have z0 := box_cell hbk3 0
  have z1 := box_cell hbk3 1
  have z2 := box_cell hbk3 2
  have z3 := box_cell hbk3 3
  have z4 := box_cell hbk3 4
  have z5 := box_cell hbk3 5
  have z6 := box_cell hbk3 6
  have z7 := box_cell hbk3 7
  have z8 := box_cell hbk3 8
  simp only [List.getElem?_toArray, List.getElem?_cons_zero, List.getElem?_cons_succ] at z0 z1 z2 z3 z4 z5 z6 z7 z8
  replace hbk3 : Hid _ := hbk3
  replace hS3 : Hid (St B b T o1 [77, 65, 88, 40] (dp + 1) w w3) := hS3
  have hK3 : Hid (Kps B b w w3) := hK2.out.trans hK
  clear hK
  obtain ⟨q0, q1, q2, q3, q4, q5, q6, q7, q8⟩ := hN.out w3 hK3.out
  go_wp2_with fail
  go_at_call 22
  refine Calls.mono (hA.out w3 hS3.out) ?_
  rintro e w4 ⟨rfl, hK, hS4⟩
  replace hS4 : Hid (St B b T o2 XA (dp + 1) w w4) := hS4
  have hK4 : Hid (Kps B b w w4) := hK3.out.trans hK
  clear hK
  go_wp2_with fail
  go_at_call 20
  refine Calls.mono (hE.out w4 hS4.out) ?_
  rintro e w5 ⟨rfl, hK, hS5⟩
  replace hS5 : Hid (St B b T o2 (XA ++ [41]) (dp + 1) w w5) := hS5
  have hK5 : Hid (Kps B b w w5) := hK4.out.trans hK
  clear hK
  have g1 := hS5.out.deep_cell.1
  have g2 := hS5.out.deep_cell.2
  have hF := hS5.out.deep dp
  replace hF : Hid _ := hF
  go_wp2_with fail
  exact bodyPost_end (results_none rfl _ _ _) rfl ⟨rfl, hF.out⟩
set_option maxRecDepth 100000 in
set_option maxHeartbeats 2000000 in
theorem call_star {o1 : Bool} {B b : Nat} {T : List UInt8} {dp : Int} (nm pr : List UInt8) (k : Int) (bb : Bool) (n : Int) (t : List UInt8) (kp : Option Addr) (kn kc : Nat) (pa : Option Addr) (pl pc : Nat) (w : World)
    (hS : St B b T true [] dp w w) (h0 : 0 ≤ dp) (h1 : dp ≤ 1000)
    (hD : ∀ w2, St B b T true [] dp w w2 → Calls Tryz.prog 48 #[.pointer (some ⟨b, 0, none⟩)] w2 fun e w' => e = .returned (.tuple #[]) ∧ Kps B b w2 w' ∧ St B b T o1 [] (dp + 1) w w') :
    Calls Tryz.prog 49 #[.pointer (some ⟨b, 0, none⟩), .agg #[.int .i64 26, .slice kp kn kc, .string (txt nm), .string (txt pr), .int .i64 k, .bool bb, .int .i64 n, .string (txt t), .slice pa pl pc]] w fun e w' => e = .returned (.tuple #[]) ∧ St B b T o1 ([67, 79, 85, 78, 84, 40] ++ [42] ++ [41]) dp w w' := by
  have hC := fun (w2 : World) (h : St B b T o1 [] (dp + 1) w w2) => h.says [67, 79, 85, 78, 84, 40] (by decide)
  rw [show txt [67, 79, 85, 78, 84, 40] = ⟨#[67, 79, 85, 78, 84, 40]⟩ from rfl] at hC
  have hA := fun (w2 : World) (h : St B b T o1 [67, 79, 85, 78, 84, 40] (dp + 1) w w2) => h.says [42] (by decide)
  rw [show txt [42] = ⟨#[42]⟩ from rfl] at hA
  have hE := fun (w2 : World) (h : St B b T o1 ([67, 79, 85, 78, 84, 40] ++ [42]) (dp + 1) w w2) => h.says [41] (by decide)
  rw [show txt [41] = ⟨#[41]⟩ from rfl] at hE
  have hb9 : dp + 1 - 1 = dp := by omega
  replace hD : Hid _ := hD
  replace hA : Hid _ := hA
  replace hC : Hid _ := hC
  replace hE : Hid _ := hE
  have hb0 := below_new w (.cells #[.int .i64 26, .slice kp kn kc, .string (txt nm), .string (txt pr), .int .i64 k, .bool bb, .int .i64 n, .string (txt t), .slice pa pl pc] 39)
  have hlt : Hid _ := hS.ltb
  have hsz : Hid _ := hS.siz
  have hS1 := hS.below hb0
  have hbk1 := heap_alloc_new w (.cells #[.int .i64 26, .slice kp kn kc, .string (txt nm), .string (txt pr), .int .i64 k, .bool bb, .int .i64 n, .string (txt t), .slice pa pl pc] 39)
  have hK1 : Hid (Kps B b w (w.alloc (.cells #[.int .i64 26, .slice kp kn kc, .string (txt nm), .string (txt pr), .int .i64 k, .bool bb, .int .i64 n, .string (txt t), .slice pa pl pc] 39))) := Kps.of hb0 hsz.out
  replace hbk1 : Hid _ := hbk1
  replace hS1 : Hid (St B b T true [] dp w (w.alloc (.cells #[.int .i64 26, .slice kp kn kc, .string (txt nm), .string (txt pr), .int .i64 k, .bool bb, .int .i64 n, .string (txt t), .slice pa pl pc] 39))) := hS1
  go_enter Tryz.func49, Tryz.ntmps49
  go_wp2_with fail
  go_at_call 48
  refine Calls.mono (hD.out _ hS1.out) ?_
  rintro e w2 ⟨rfl, hK, hS2⟩
  have hbk2 := hK.box hbk1.out (by decide) (by have := hlt.out; omega)
  have y0 := box_cell hbk2 0
  have y1 := box_cell hbk2 1
  have y2 := box_cell hbk2 2
  have y3 := box_cell hbk2 3
  have y4 := box_cell hbk2 4
  have y5 := box_cell hbk2 5
  have y6 := box_cell hbk2 6
  have y7 := box_cell hbk2 7
  have y8 := box_cell hbk2 8
  simp only [List.getElem?_toArray, List.getElem?_cons_zero, List.getElem?_cons_succ] at y0 y1 y2 y3 y4 y5 y6 y7 y8
  replace hbk2 : Hid _ := hbk2
  replace hS2 : Hid (St B b T o1 [] (dp + 1) w w2) := hS2
  have hK2 : Hid (Kps B b w w2) := hK1.out.trans hK
  clear hK hK1 hbk1 hS1 hb0
  go_wp2_with fail
  go_at_call 20
  refine Calls.mono (hC.out w2 hS2.out) ?_
  rintro e w3 ⟨rfl, hK, hS3⟩
  have hbk3 := hK.box hbk2.out (by decide) (by have := hlt.out; omega)
  have z0 := box_cell hbk3 0
  have z1 := box_cell hbk3 1
  have z2 := box_cell hbk3 2
  have z3 := box_cell hbk3 3
  have z4 := box_cell hbk3 4
  have z5 := box_cell hbk3 5
  have z6 := box_cell hbk3 6
  have z7 := box_cell hbk3 7
  have z8 := box_cell hbk3 8
  simp only [List.getElem?_toArray, List.getElem?_cons_zero, List.getElem?_cons_succ] at z0 z1 z2 z3 z4 z5 z6 z7 z8
  replace hbk3 : Hid _ := hbk3
  replace hS3 : Hid (St B b T o1 [67, 79, 85, 78, 84, 40] (dp + 1) w w3) := hS3
  have hK3 : Hid (Kps B b w w3) := hK2.out.trans hK
  clear hK
  go_wp2_with fail
  go_at_call 20
  refine Calls.mono (hA.out w3 hS3.out) ?_
  rintro e w4 ⟨rfl, hK, hS4⟩
  replace hS4 : Hid (St B b T o1 ([67, 79, 85, 78, 84, 40] ++ [42]) (dp + 1) w w4) := hS4
  have hK4 : Hid (Kps B b w w4) := hK3.out.trans hK
  clear hK
  go_wp2_with fail
  go_at_call 20
  refine Calls.mono (hE.out w4 hS4.out) ?_
  rintro e w5 ⟨rfl, hK, hS5⟩
  replace hS5 : Hid (St B b T o1 ([67, 79, 85, 78, 84, 40] ++ [42] ++ [41]) (dp + 1) w w5) := hS5
  have hK5 : Hid (Kps B b w w5) := hK4.out.trans hK
  clear hK
  have g1 := hS5.out.deep_cell.1
  have g2 := hS5.out.deep_cell.2
  have hF := hS5.out.deep dp
  replace hF : Hid _ := hF
  go_wp2_with fail
  exact bodyPost_end (results_none rfl _ _ _) rfl ⟨rfl, hF.out⟩
end Go.Proofs.YtkcnpbckmdgfnaaGreatDoor
