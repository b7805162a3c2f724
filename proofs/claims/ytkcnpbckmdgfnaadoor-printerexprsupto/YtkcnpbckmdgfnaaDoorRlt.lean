/-
  Rlt: turned for the seat of the expressions.
-/
import Derived.Test.YtkcnpbckmdgfnaaDoorRqu
import Derived.Test.YtkcnpbckmdgfnaaDoorRwd
import Derived.Test.YtkcnpbckmdgfnaaDoorOwa
namespace Go.Proofs.YtkcnpbckmdgfnaaDoor
open Go.ChangeShapes Go.WideShapes Go.ChangeAt Go.RowKit
set_option linter.unusedSimpArgs false
set_option linter.unusedVariables false
set_option maxRecDepth 100000 in
set_option maxHeartbeats 1000000 in
theorem rshow_int (b : Bool) (n : Int) (t : List UInt8) (pa : Option Addr) (ph : List Int) (c : Nat) (w : World) (hT : Tabs w) (hp : V2.PathAt w pa ph) (ht : t.length ≤ maxLen) (h0 : 0 ≤ n) (h1 : n ≤ 9223372036854775807) (hr : rgV 2 b n t ph = true) :
    Calls Tryd.prog 33 #[.agg #[.int .i64 2, .bool b, .int .i64 n, .string (txt t), .slice pa ph.length c]] w fun e w' => e = .returned (.string (txt (Lib.decDigits n.toNat))) ∧ Below w.heap.size w w' := by
  have hb0 := below_new w (.cells #[.int .i64 2, .bool b, .int .i64 n, .string (txt t), .slice pa ph.length c] 27)
  have hR := fun (_ : Unit) => rright_val 2 b n t pa ph c _ (hT.below hb0) (hp.below hb0) ht
  rw [hr] at hR
  have q0 : (w.alloc (.cells #[.int .i64 2, .bool b, .int .i64 n, .string (txt t), .slice pa ph.length c] 27)).cell? ⟨w.heap.size, 0, none⟩ = some (.int .i64 2) := alloc_cell w rfl
  have qq : (w.alloc (.cells #[.int .i64 2, .bool b, .int .i64 n, .string (txt t), .slice pa ph.length c] 27)).cell? ⟨w.heap.size, 2, none⟩ = some (.int .i64 n) := alloc_cell w rfl
  have hF := fun (w1 : World) (h : Tabs w1) => Format_any n h0 h1 w1 h
  generalize txt (Lib.decDigits n.toNat) = X at hF ⊢
  replace hR : Hid _ := hR
  replace hF : Hid _ := hF
  replace hb0 : Hid _ := hb0
  replace q0 : Hid _ := q0
  replace qq : Hid _ := qq
  clear hr
  go_enter Tryd.func33, Tryd.ntmps33
  go_wp2_with (first
    | (have hh := hR.out (); go_at_call 32; (with_reducible refine Calls.mono hh ?_); clear hh; rintro e w1 ⟨rfl, hb1⟩; have k0 := cbelow hb1 q0.out; have kq := cbelow hb1 qq.out)
    | (have hh := hF.out _ (hT.below (below_on hb0.out hb1)); go_at_call 44; (with_reducible refine Calls.mono hh ?_); clear hh; rintro e w2 ⟨rfl, hb2⟩))
  go_returns
  exact ⟨rfl, below_on (below_on hb0.out hb1) hb2⟩
set_option maxRecDepth 100000 in
set_option maxHeartbeats 1000000 in
theorem rshow_text (b : Bool) (n : Int) (t : List UInt8) (pa : Option Addr) (ph : List Int) (c : Nat) (w : World) (hT : Tabs w) (hp : V2.PathAt w pa ph) (ht : t.length ≤ maxLen) (hs : t.length ≤ 1048576) (hv : Lib.validD t = true) (hr : rgV 3 b n t ph = true) :
    Calls Tryd.prog 33 #[.agg #[.int .i64 3, .bool b, .int .i64 n, .string (txt t), .slice pa ph.length c]] w fun e w' => e = .returned (.string (txt (quoL t))) ∧ Below w.heap.size w w' := by
  have hb0 := below_new w (.cells #[.int .i64 3, .bool b, .int .i64 n, .string (txt t), .slice pa ph.length c] 27)
  have hR := fun (_ : Unit) => rright_val 3 b n t pa ph c _ (hT.below hb0) (hp.below hb0) ht
  rw [hr] at hR
  have q0 : (w.alloc (.cells #[.int .i64 3, .bool b, .int .i64 n, .string (txt t), .slice pa ph.length c] 27)).cell? ⟨w.heap.size, 0, none⟩ = some (.int .i64 3) := alloc_cell w rfl
  have qq : (w.alloc (.cells #[.int .i64 3, .bool b, .int .i64 n, .string (txt t), .slice pa ph.length c] 27)).cell? ⟨w.heap.size, 3, none⟩ = some (.string (txt t)) := alloc_cell w rfl
  have hF := fun (w1 : World) (_ : Tabs w1) => Quoted_any (txt t) (by rw [txt_size]; exact hs) w1
  rw [txt_list] at hF
  generalize txt (quoL t) = X at hF ⊢
  replace hR : Hid _ := hR
  replace hF : Hid _ := hF
  replace hb0 : Hid _ := hb0
  replace q0 : Hid _ := q0
  replace qq : Hid _ := qq
  clear hr
  go_enter Tryd.func33, Tryd.ntmps33
  go_wp2_with (first
    | (have hh := hR.out (); go_at_call 32; (with_reducible refine Calls.mono hh ?_); clear hh; rintro e w1 ⟨rfl, hb1⟩; have k0 := cbelow hb1 q0.out; have kq := cbelow hb1 qq.out)
    | (have hh := hF.out _ (hT.below (below_on hb0.out hb1)); go_at_call 45; (with_reducible refine Calls.mono hh ?_); clear hh; rintro e w2 ⟨rfl, hb2⟩))
  go_returns
  exact ⟨rfl, below_on (below_on hb0.out hb1) hb2⟩
set_option maxRecDepth 100000 in
theorem lit_null {B b : Nat} {T : List UInt8} {dp : Int} {bad : Bool} (bb : Bool) (n : Int) (t : List UInt8) (pa : Option Addr) (ph : List Int) (c : Nat) (w : World) (h : WAt B b T dp bad w) (hB : B ≤ w.heap.size) :
    Calls Tryd.prog 19 #[.pointer (some ⟨b, 0, none⟩), .agg #[.int .i64 0, .bool bb, .int .i64 n, .string (txt t), .slice pa ph.length c]] w fun e w' => e = .returned (.tuple #[]) ∧ WAt B b (T ++ [78, 85, 76, 76]) dp bad w' ∧ Kps B b w w' := by
  have hb0 := below_new w (.cells #[.int .i64 0, .bool bb, .int .i64 n, .string (txt t), .slice pa ph.length c] 27)
  have hz0 := hb0.size
  have hS := fun (_ : Unit) => rsay_any [78, 85, 76, 76] _ (h.below hb0) (by decide) (Nat.le_trans hB hz0)
  rw [show txt [78, 85, 76, 76] = ⟨#[78, 85, 76, 76]⟩ from rfl] at hS
  have q0 : (w.alloc (.cells #[.int .i64 0, .bool bb, .int .i64 n, .string (txt t), .slice pa ph.length c] 27)).cell? ⟨w.heap.size, 0, none⟩ = some (.int .i64 0) := alloc_cell w rfl
  have q1 : (w.alloc (.cells #[.int .i64 0, .bool bb, .int .i64 n, .string (txt t), .slice pa ph.length c] 27)).cell? ⟨w.heap.size, 1, none⟩ = some (.bool bb) := alloc_cell w rfl
  replace hS : Hid _ := hS
  replace hb0 : Hid _ := hb0
  clear h
  go_enter Tryd.func19, Tryd.ntmps19
  go_wp2_with (have hh := hS.out (); go_at_call 21; (with_reducible refine Calls.mono hh ?_); clear hh; rintro e w1 ⟨rfl, hW1, hK1⟩)
  exact bodyPost_end (results_none rfl _ _ _) rfl ⟨rfl, hW1, (Kps.of hb0.out hB).trans hK1⟩
set_option maxRecDepth 100000 in
theorem lit_true {B b : Nat} {T : List UInt8} {dp : Int} {bad : Bool} (n : Int) (t : List UInt8) (pa : Option Addr) (ph : List Int) (c : Nat) (w : World) (h : WAt B b T dp bad w) (hB : B ≤ w.heap.size) :
    Calls Tryd.prog 19 #[.pointer (some ⟨b, 0, none⟩), .agg #[.int .i64 1, .bool true, .int .i64 n, .string (txt t), .slice pa ph.length c]] w fun e w' => e = .returned (.tuple #[]) ∧ WAt B b (T ++ [84, 82, 85, 69]) dp bad w' ∧ Kps B b w w' := by
  have hb0 := below_new w (.cells #[.int .i64 1, .bool true, .int .i64 n, .string (txt t), .slice pa ph.length c] 27)
  have hz0 := hb0.size
  have hS := fun (_ : Unit) => rsay_any [84, 82, 85, 69] _ (h.below hb0) (by decide) (Nat.le_trans hB hz0)
  rw [show txt [84, 82, 85, 69] = ⟨#[84, 82, 85, 69]⟩ from rfl] at hS
  have q0 : (w.alloc (.cells #[.int .i64 1, .bool true, .int .i64 n, .string (txt t), .slice pa ph.length c] 27)).cell? ⟨w.heap.size, 0, none⟩ = some (.int .i64 1) := alloc_cell w rfl
  have q1 : (w.alloc (.cells #[.int .i64 1, .bool true, .int .i64 n, .string (txt t), .slice pa ph.length c] 27)).cell? ⟨w.heap.size, 1, none⟩ = some (.bool true) := alloc_cell w rfl
  replace hS : Hid _ := hS
  replace hb0 : Hid _ := hb0
  clear h
  go_enter Tryd.func19, Tryd.ntmps19
  go_wp2_with (have hh := hS.out (); go_at_call 21; (with_reducible refine Calls.mono hh ?_); clear hh; rintro e w1 ⟨rfl, hW1, hK1⟩)
  exact bodyPost_end (results_none rfl _ _ _) rfl ⟨rfl, hW1, (Kps.of hb0.out hB).trans hK1⟩
set_option maxRecDepth 100000 in
theorem lit_false {B b : Nat} {T : List UInt8} {dp : Int} {bad : Bool} (n : Int) (t : List UInt8) (pa : Option Addr) (ph : List Int) (c : Nat) (w : World) (h : WAt B b T dp bad w) (hB : B ≤ w.heap.size) :
    Calls Tryd.prog 19 #[.pointer (some ⟨b, 0, none⟩), .agg #[.int .i64 1, .bool false, .int .i64 n, .string (txt t), .slice pa ph.length c]] w fun e w' => e = .returned (.tuple #[]) ∧ WAt B b (T ++ [70, 65, 76, 83, 69]) dp bad w' ∧ Kps B b w w' := by
  have hb0 := below_new w (.cells #[.int .i64 1, .bool false, .int .i64 n, .string (txt t), .slice pa ph.length c] 27)
  have hz0 := hb0.size
  have hS := fun (_ : Unit) => rsay_any [70, 65, 76, 83, 69] _ (h.below hb0) (by decide) (Nat.le_trans hB hz0)
  rw [show txt [70, 65, 76, 83, 69] = ⟨#[70, 65, 76, 83, 69]⟩ from rfl] at hS
  have q0 : (w.alloc (.cells #[.int .i64 1, .bool false, .int .i64 n, .string (txt t), .slice pa ph.length c] 27)).cell? ⟨w.heap.size, 0, none⟩ = some (.int .i64 1) := alloc_cell w rfl
  have q1 : (w.alloc (.cells #[.int .i64 1, .bool false, .int .i64 n, .string (txt t), .slice pa ph.length c] 27)).cell? ⟨w.heap.size, 1, none⟩ = some (.bool false) := alloc_cell w rfl
  replace hS : Hid _ := hS
  replace hb0 : Hid _ := hb0
  clear h
  go_enter Tryd.func19, Tryd.ntmps19
  go_wp2_with (have hh := hS.out (); go_at_call 21; (with_reducible refine Calls.mono hh ?_); clear hh; rintro e w1 ⟨rfl, hW1, hK1⟩)
  exact bodyPost_end (results_none rfl _ _ _) rfl ⟨rfl, hW1, (Kps.of hb0.out hB).trans hK1⟩
set_option maxRecDepth 100000 in
theorem lit_int {B b : Nat} {T : List UInt8} {dp : Int} {bad : Bool} (bb : Bool) (n : Int) (t : List UInt8) (pa : Option Addr) (ph : List Int) (c : Nat) (w : World) (h : WAt B b T dp bad w) (hB : B ≤ w.heap.size) (hT : Tabs w) (hp : V2.PathAt w pa ph) (ht : t.length ≤ maxLen) (hr : rgV 2 bb n t ph = true) (h0 : 0 ≤ n) (h1 : n ≤ 9223372036854775807) :
    Calls Tryd.prog 19 #[.pointer (some ⟨b, 0, none⟩), .agg #[.int .i64 2, .bool bb, .int .i64 n, .string (txt t), .slice pa ph.length c]] w fun e w' => e = .returned (.tuple #[]) ∧ WAt B b (T ++ Lib.decDigits n.toNat) dp bad w' ∧ Kps B b w w' := by
  have hlen : (Lib.decDigits n.toNat).length ≤ 4194304 := by
    rw [Lib.decDigits_length]
    have := Lib.nDigits_le20 n.toNat (by omega)
    omega
  have hb0 := below_new w (.cells #[.int .i64 2, .bool bb, .int .i64 n, .string (txt t), .slice pa ph.length c] 27)
  have hz0 := hb0.size
  have hR := fun (_ : Unit) => rshow_int bb n t pa ph c _ (hT.below hb0) (hp.below hb0) ht h0 h1 hr
  have hS := fun (w1 : World) (h1 : WAt B b T dp bad w1) (h2 : B ≤ w1.heap.size) => rsay_any (Lib.decDigits n.toNat) w1 h1 hlen h2
  have q0 : (w.alloc (.cells #[.int .i64 2, .bool bb, .int .i64 n, .string (txt t), .slice pa ph.length c] 27)).cell? ⟨w.heap.size, 0, none⟩ = some (.int .i64 2) := alloc_cell w rfl
  have hbk := heap_alloc_new w (.cells #[.int .i64 2, .bool bb, .int .i64 n, .string (txt t), .slice pa ph.length c] 27)
  have hG := fun (w1 : World) (hb : Below w.heap.size w w1) => h.below hb
  generalize Lib.decDigits n.toNat = X at *
  replace hR : Hid _ := hR
  replace hS : Hid _ := hS
  replace hG : Hid _ := hG
  replace hb0 : Hid _ := hb0
  replace hbk : Hid _ := hbk
  replace q0 : Hid _ := q0
  clear hT hp hr hlen h
  go_enter Tryd.func19, Tryd.ntmps19
  go_wp2_with (first
    | (have hh := hR.out (); go_at_call 33; (with_reducible refine Calls.mono hh ?_); clear hh; rintro e w1 ⟨rfl, hb1⟩; have hb2 := below_on hb0.out hb1; have hz2 := hb2.size)
    | (have hh := hS.out w1 (hG.out w1 hb2) (Nat.le_trans hB hz2); go_at_call 21; (with_reducible refine Calls.mono hh ?_); clear hh; rintro e w2 ⟨rfl, hW2, hK2⟩))
  exact bodyPost_end (results_none rfl _ _ _) rfl ⟨rfl, hW2, (Kps.of hb2 hB).trans hK2⟩
set_option maxRecDepth 100000 in
theorem lit_text {B b : Nat} {T : List UInt8} {dp : Int} {bad : Bool} (bb : Bool) (n : Int) (t : List UInt8) (pa : Option Addr) (ph : List Int) (c : Nat) (w : World) (h : WAt B b T dp bad w) (hB : B ≤ w.heap.size) (hT : Tabs w) (hp : V2.PathAt w pa ph) (ht : t.length ≤ maxLen) (hr : rgV 3 bb n t ph = true) :
    Calls Tryd.prog 19 #[.pointer (some ⟨b, 0, none⟩), .agg #[.int .i64 3, .bool bb, .int .i64 n, .string (txt t), .slice pa ph.length c]] w fun e w' => e = .returned (.tuple #[]) ∧ WAt B b (T ++ quoL t) dp bad w' ∧ Kps B b w w' := by
  have hlen : (quoL t).length ≤ 4194304 := by
    have h4 := (rgV_text hr).1
    have h5 := escS_len t
    unfold quoL
    simp only [List.length_cons, List.length_append, List.length_nil]
    omega
  have hb0 := below_new w (.cells #[.int .i64 3, .bool bb, .int .i64 n, .string (txt t), .slice pa ph.length c] 27)
  have hz0 := hb0.size
  have hR := fun (_ : Unit) => rshow_text bb n t pa ph c _ (hT.below hb0) (hp.below hb0) ht (by have := (rgV_text hr).1; omega) (rgV_text hr).2 hr
  have hS := fun (w1 : World) (h1 : WAt B b T dp bad w1) (h2 : B ≤ w1.heap.size) => rsay_any (quoL t) w1 h1 hlen h2
  have q0 : (w.alloc (.cells #[.int .i64 3, .bool bb, .int .i64 n, .string (txt t), .slice pa ph.length c] 27)).cell? ⟨w.heap.size, 0, none⟩ = some (.int .i64 3) := alloc_cell w rfl
  have hbk := heap_alloc_new w (.cells #[.int .i64 3, .bool bb, .int .i64 n, .string (txt t), .slice pa ph.length c] 27)
  have hG := fun (w1 : World) (hb : Below w.heap.size w w1) => h.below hb
  generalize quoL t = X at *
  replace hR : Hid _ := hR
  replace hS : Hid _ := hS
  replace hG : Hid _ := hG
  replace hb0 : Hid _ := hb0
  replace hbk : Hid _ := hbk
  replace q0 : Hid _ := q0
  clear hT hp hr hlen h
  go_enter Tryd.func19, Tryd.ntmps19
  go_wp2_with (first
    | (have hh := hR.out (); go_at_call 33; (with_reducible refine Calls.mono hh ?_); clear hh; rintro e w1 ⟨rfl, hb1⟩; have hb2 := below_on hb0.out hb1; have hz2 := hb2.size)
    | (have hh := hS.out w1 (hG.out w1 hb2) (Nat.le_trans hB hz2); go_at_call 21; (with_reducible refine Calls.mono hh ?_); clear hh; rintro e w2 ⟨rfl, hW2, hK2⟩))
  exact bodyPost_end (results_none rfl _ _ _) rfl ⟨rfl, hW2, (Kps.of hb2 hB).trans hK2⟩
/-- The document's lit of a value that may stand in a query. -/
theorem lit_any {B b : Nat} {T : List UInt8} {dp : Int} {bad : Bool} (k : Int) (bb : Bool) (n : Int) (t : List UInt8) (pa : Option Addr) (ph : List Int) (c : Nat) (w : World) (h : WAt B b T dp bad w) (hB : B ≤ w.heap.size) (hT : Tabs w) (hp : V2.PathAt w pa ph) (ht : t.length ≤ maxLen) (hr : litB k bb n t ph = true) (h1 : n ≤ 9223372036854775807) :
    Calls Tryd.prog 19 #[.pointer (some ⟨b, 0, none⟩), .agg #[.int .i64 k, .bool bb, .int .i64 n, .string (txt t), .slice pa ph.length c]] w fun e w' => e = .returned (.tuple #[]) ∧ WAt B b (T ++ litT k bb n t) dp bad w' ∧ Kps B b w w' := by
  unfold litB at hr
  simp only [Bool.and_eq_true, decide_eq_true_iff] at hr
  obtain ⟨⟨h2, h3⟩, h4⟩ := hr
  have h5 := rgV_kind h2
  have hk : k = 0 ∨ k = 1 ∨ k = 2 ∨ k = 3 := by omega
  rcases hk with rfl | rfl | rfl | rfl
  · exact lit_null bb n t pa ph c w h hB
  · cases bb
    · exact lit_false n t pa ph c w h hB
    · exact lit_true n t pa ph c w h hB
  · exact lit_int bb n t pa ph c w h hB hT hp ht h2 h4 h1
  · exact lit_text bb n t pa ph c w h hB hT hp ht h2
end Go.Proofs.YtkcnpbckmdgfnaaDoor
