/-
  Names that are read as names; values that stand in a query; the fields that an Op has.
  The fields that an Op has: rightFields.
-/
import Derived.Test.YtkcnpbckmdgfnaaGreatDoorFmo
import Derived.Test.YtkcnpbckmdgfnaaGreatDoorKea
import Derived.Test.YtkcnpbckmdgfnaaGreatDoorVsh
namespace Go.Proofs.YtkcnpbckmdgfnaaGreatDoor
open Go.ChangeShapes Go.WideShapes Go.ChangeAt Go.RowKit
set_option linter.unusedSimpArgs false
set_option linter.unusedVariables false

theorem txt_nil : txt [] = ⟨#[]⟩ := rfl
theorem txt_eqb (s : List UInt8) (h : s ≠ []) : ((txt s).toList == []) = false := by
  have : ¬ (txt s).size = 0 := by rw [txt_size]; intro e; exact h (List.length_eq_zero_iff.1 e)
  have := V2.toList_ne this
  simpa using this
theorem key_small (s : List UInt8) : (keyL s).length ≤ 100 := by
  unfold keyL
  split
  · rename_i h
    rw [List.any_eq_true] at h
    obtain ⟨k, hk, e⟩ := h
    have e := of_decide_eq_true e
    rw [e]
    have : ∀ k ∈ keysL, k.length ≤ 100 := by decide
    exact this k hk
  · simp
set_option maxRecDepth 100000 in
/-- Is it a name that is read as one? -/
theorem isName_any (s : List UInt8) (w : World) (hs : s.length ≤ maxLen) (hT : Tabs w) :
    Calls Tryz.prog 76 #[.string (txt s)] w fun e w' => e = .returned (.bool (nmB s)) ∧ Below w.heap.size w w' := by
  have hz := txt_size s
  have hN := fun (_ : Unit) => V4.Name_any (txt s) w (by rw [hz]; exact hs)
  unfold nmB
  cases hn : V4.nameB (txt s)
  · rw [hn] at hN
    rw [Bool.false_and]
    replace hN : Hid _ := hN
    go_enter Tryz.func76, Tryz.ntmps76
    go_wp2_with ((have hh := hN.out (); go_at_call 103; (with_reducible refine Calls.mono hh ?_); clear hh; rintro e w1 ⟨rfl, hb1⟩))
    go_returns
    exact ⟨rfl, hb1⟩
  · rw [hn] at hN
    rw [Bool.true_and]
    have h32 : s.length ≤ 32 := by
      unfold V4.nameB at hn
      rw [hz] at hn
      simp at hn
      omega
    have hK := fun (w1 : World) (h : Tabs w1) => Key_any (txt s) (by omega) w1 h
    rw [txt_list] at hK
    by_cases hk : keyL s = []
    · rw [hk] at hK
      rw [show decide (keyL s = []) = true by simp [hk]]
      rw [txt_nil] at hK
      replace hN : Hid _ := hN
      replace hK : Hid _ := hK
      replace hT : Hid _ := hT
      clear hn hz
      go_enter Tryz.func76, Tryz.ntmps76
      go_wp2_with (first
        | (have hh := hN.out (); go_at_call 103; (with_reducible refine Calls.mono hh ?_); clear hh; rintro e w1 ⟨rfl, hb1⟩)
        | (have hh := hK.out _ (hT.out.below hb1); go_at_call 104; (with_reducible refine Calls.mono hh ?_); clear hh; rintro e w2 ⟨rfl, hb2⟩))
      go_returns
      exact ⟨rfl, below_on hb1 hb2⟩
    · have hk2 := txt_eqb _ hk
      rw [show decide (keyL s = []) = false by simp [hk]]
      generalize keyL s = K at *
      replace hN : Hid _ := hN
      replace hK : Hid _ := hK
      replace hT : Hid _ := hT
      clear hn hz
      go_enter Tryz.func76, Tryz.ntmps76
      go_wp2_with (first
        | (have hh := hN.out (); go_at_call 103; (with_reducible refine Calls.mono hh ?_); clear hh; rintro e w1 ⟨rfl, hb1⟩)
        | (have hh := hK.out _ (hT.out.below hb1); go_at_call 104; (with_reducible refine Calls.mono hh ?_); clear hh; rintro e w2 ⟨rfl, hb2⟩))
      go_returns
      exact ⟨rfl, below_on hb1 hb2⟩
/-- Right of a value. -/
theorem right_val (k : Int) (b : Bool) (n : Int) (t : List UInt8) (pa : Option Addr) (ph : List Int) (c : Nat) (w : World) (hT : Tabs w) (hp : V2.PathAt w pa ph) (ht : t.length ≤ maxLen) :
    Calls Tryz.prog 124 #[.agg #[.int .i64 k, .bool b, .int .i64 n, .string (txt t), .slice pa ph.length c]] w fun e w' => e = .returned (.bool (rgV k b n t ph)) ∧ Below w.heap.size w w' := by
  refine V2.Right_any k b n (txt t) pa ph.length c ph (Lib.validD t) w rfl hp fun w' hb => ?_
  have := Tryz.validString (txt t) w' (by rw [txt_size]; unfold maxLen at ht; omega) (hT.below hb).u8
  rw [txt_list] at this
  exact this
set_option maxRecDepth 100000 in
theorem isZero_any (k : Int) (b : Bool) (n : Int) (t : List UInt8) (pa : Option Addr) (ph : List Int) (c : Nat) (w : World) (hT : Tabs w) (hp : V2.PathAt w pa ph) (ht : t.length ≤ maxLen) :
    Calls Tryz.prog 94 #[.agg #[.int .i64 k, .bool b, .int .i64 n, .string (txt t), .slice pa ph.length c]] w fun e w' => e = .returned (.bool (zerB k b n t ph)) ∧ Below w.heap.size w w' := by
  have hb0 := below_new w (.cells #[.int .i64 k, .bool b, .int .i64 n, .string (txt t), .slice pa ph.length c] 37)
  have hR := fun (_ : Unit) => right_val k b n t pa ph c _ (hT.below hb0) (hp.below hb0) ht
  have q0 : (w.alloc (.cells #[.int .i64 k, .bool b, .int .i64 n, .string (txt t), .slice pa ph.length c] 37)).cell? ⟨w.heap.size, 0, none⟩ = some (.int .i64 k) := alloc_cell w rfl
  unfold zerB
  cases hr : rgV k b n t ph
  · rw [hr] at hR
    rw [Bool.false_and]
    replace hR : Hid _ := hR
    replace hb0 : Hid _ := hb0
    clear q0
    go_enter Tryz.func94, Tryz.ntmps94
    go_wp2_with (have hh := hR.out (); go_at_call 124; (with_reducible refine Calls.mono hh ?_); clear hh; rintro e w1 ⟨rfl, hb1⟩)
    go_returns
    exact ⟨rfl, below_on hb0.out hb1⟩
  · rw [hr] at hR
    rw [Bool.true_and]
    replace hR : Hid _ := hR
    replace hb0 : Hid _ := hb0
    replace q0 : Hid _ := q0
    by_cases hk : k = 0
    · subst hk
      go_enter Tryz.func94, Tryz.ntmps94
      go_wp2_with (have hh := hR.out (); go_at_call 124; (with_reducible refine Calls.mono hh ?_); clear hh; rintro e w1 ⟨rfl, hb1⟩; have k0 := cbelow hb1 q0.out)
      go_returns
      exact ⟨rfl, below_on hb0.out hb1⟩
    · have hk2 : (k == 0) = false := by simpa using hk
      have hk3 : decide (k = 0) = false := by simpa using hk
      go_enter Tryz.func94, Tryz.ntmps94
      go_wp2_with (have hh := hR.out (); go_at_call 124; (with_reducible refine Calls.mono hh ?_); clear hh; rintro e w1 ⟨rfl, hb1⟩; have k0 := cbelow hb1 q0.out)
      go_returns
      exact ⟨by simp [hk], below_on hb0.out hb1⟩
set_option maxRecDepth 100000 in
theorem rightLit_any (k : Int) (b : Bool) (n : Int) (t : List UInt8) (pa : Option Addr) (ph : List Int) (c : Nat) (w : World) (hT : Tabs w) (hp : V2.PathAt w pa ph) (ht : t.length ≤ maxLen) :
    Calls Tryz.prog 93 #[.agg #[.int .i64 k, .bool b, .int .i64 n, .string (txt t), .slice pa ph.length c]] w fun e w' => e = .returned (.bool (litB k b n t ph)) ∧ Below w.heap.size w w' := by
  have hb0 := below_new w (.cells #[.int .i64 k, .bool b, .int .i64 n, .string (txt t), .slice pa ph.length c] 37)
  have hR := fun (_ : Unit) => right_val k b n t pa ph c _ (hT.below hb0) (hp.below hb0) ht
  have q0 : (w.alloc (.cells #[.int .i64 k, .bool b, .int .i64 n, .string (txt t), .slice pa ph.length c] 37)).cell? ⟨w.heap.size, 0, none⟩ = some (.int .i64 k) := alloc_cell w rfl
  have q2 : (w.alloc (.cells #[.int .i64 k, .bool b, .int .i64 n, .string (txt t), .slice pa ph.length c] 37)).cell? ⟨w.heap.size, 2, none⟩ = some (.int .i64 n) := alloc_cell w rfl
  unfold litB
  cases hr : rgV k b n t ph
  · rw [hr] at hR
    rw [Bool.false_and, Bool.false_and]
    replace hR : Hid _ := hR
    replace hb0 : Hid _ := hb0
    clear q0 q2
    go_enter Tryz.func93, Tryz.ntmps93
    go_wp2_with (have hh := hR.out (); go_at_call 124; (with_reducible refine Calls.mono hh ?_); clear hh; rintro e w1 ⟨rfl, hb1⟩)
    go_returns
    exact ⟨rfl, below_on hb0.out hb1⟩
  · rw [hr] at hR
    rw [Bool.true_and]
    replace hR : Hid _ := hR
    replace hb0 : Hid _ := hb0
    replace q0 : Hid _ := q0
    replace q2 : Hid _ := q2
    by_cases hk : k ≤ 3
    · rw [show decide (k ≤ 3) = true by simpa using hk, Bool.true_and]
      have hk3 : decide (k ≤ 3) = true := by simpa using hk
      by_cases hn : 0 ≤ n
      · have hn2 : decide (0 ≤ n) = true := by simpa using hn
        have hn3 : decide (n ≥ 0) = true := by simpa using hn
        rw [hn2]
        go_enter Tryz.func93, Tryz.ntmps93
        go_wp2_with (have hh := hR.out (); go_at_call 124; (with_reducible refine Calls.mono hh ?_); clear hh; rintro e w1 ⟨rfl, hb1⟩; have k0 := cbelow hb1 q0.out; have k2 := cbelow hb1 q2.out)
        all_goals first | (go_returns; exact ⟨rfl, below_on hb0.out hb1⟩) | (go_returns; exact ⟨by simp; omega, below_on hb0.out hb1⟩) | (exfalso; omega)
      · have hn2 : decide (0 ≤ n) = false := by simpa using hn
        have hn3 : decide (n ≥ 0) = false := by simpa using hn
        rw [hn2]
        go_enter Tryz.func93, Tryz.ntmps93
        go_wp2_with (have hh := hR.out (); go_at_call 124; (with_reducible refine Calls.mono hh ?_); clear hh; rintro e w1 ⟨rfl, hb1⟩; have k0 := cbelow hb1 q0.out; have k2 := cbelow hb1 q2.out)
        all_goals first | (go_returns; exact ⟨rfl, below_on hb0.out hb1⟩) | (go_returns; exact ⟨by simp; omega, below_on hb0.out hb1⟩) | (exfalso; omega)
    · have hk3 : decide (k ≤ 3) = false := by simpa using hk
      rw [hk3, Bool.false_and]
      go_enter Tryz.func93, Tryz.ntmps93
      go_wp2_with (have hh := hR.out (); go_at_call 124; (with_reducible refine Calls.mono hh ?_); clear hh; rintro e w1 ⟨rfl, hb1⟩; have k0 := cbelow hb1 q0.out; have k2 := cbelow hb1 q2.out)
      all_goals first | (go_returns; exact ⟨rfl, below_on hb0.out hb1⟩) | (go_returns; exact ⟨by simp; omega, below_on hb0.out hb1⟩) | (exfalso; omega)
end Go.Proofs.YtkcnpbckmdgfnaaGreatDoor
namespace Go.Proofs.YtkcnpbckmdgfnaaGreatDoor
open Go.ChangeShapes Go.WideShapes Go.ChangeAt Go.RowKit
set_option linter.unusedSimpArgs false
set_option linter.unusedVariables false

set_option maxRecDepth 100000 in
set_option maxHeartbeats 1000000 in
theorem fields1 (nm pr : List UInt8) (k : Int) (b : Bool) (n : Int) (t : List UInt8) (pa : Option Addr) (ph : List Int) (c : Nat) (kp : Option Addr) (kn kc : Nat) (w : World) (hT : Tabs w) (hp : V2.PathAt w pa ph) (hn : nm.length ≤ maxLen) (hpr : pr.length ≤ maxLen) (ht : t.length ≤ maxLen) :
    Calls Tryz.prog 67 #[.agg #[.int .i64 1, .slice kp kn kc, .string (txt nm), .string (txt pr), .int .i64 k, .bool b, .int .i64 n, .string (txt t), .slice pa ph.length c]] w fun e w' => e = .returned (.bool (decide (nm = []) && decide (pr = []) && litB k b n t ph)) ∧ Below w.heap.size w w' := by
  by_cases h1 : nm = []
  case neg =>
    have h1b := txt_eqb _ h1
    rw [show decide (nm = []) = false by simp [h1], Bool.false_and, Bool.false_and]
    generalize txt nm = NM at *
    have hb0 := below_new w (.cells #[.int .i64 1, .slice kp kn kc, .string NM, .string (txt pr), .int .i64 k, .bool b, .int .i64 n, .string (txt t), .slice pa ph.length c] 39)
    go_enter Tryz.func67, Tryz.ntmps67
    go_wp2_with fail
    all_goals first | (go_returns; exact ⟨rfl, hb0⟩) | (exfalso; simp_all; done)
  subst h1
  by_cases h2 : pr = []
  case neg =>
    have h2b := txt_eqb _ h2
    rw [show decide (([] : List UInt8) = []) = true by simp, show decide (pr = []) = false by simp [h2], Bool.true_and, Bool.false_and]
    rw [txt_nil]
    generalize txt pr = PR at *
    have hb0 := below_new w (.cells #[.int .i64 1, .slice kp kn kc, .string ⟨#[]⟩, .string PR, .int .i64 k, .bool b, .int .i64 n, .string (txt t), .slice pa ph.length c] 39)
    go_enter Tryz.func67, Tryz.ntmps67
    go_wp2_with fail
    all_goals first | (go_returns; exact ⟨rfl, hb0⟩) | (exfalso; simp_all; done)
  subst h2
  rw [show decide (([] : List UInt8) = []) = true by simp, Bool.true_and, Bool.true_and, txt_nil]
  have hb0 := below_new w (.cells #[.int .i64 1, .slice kp kn kc, .string ⟨#[]⟩, .string ⟨#[]⟩, .int .i64 k, .bool b, .int .i64 n, .string (txt t), .slice pa ph.length c] 39)
  have hL := fun (_ : Unit) => rightLit_any k b n t pa ph c _ (hT.below hb0) (hp.below hb0) ht
  replace hL : Hid _ := hL
  replace hb0 : Hid _ := hb0
  go_enter Tryz.func67, Tryz.ntmps67
  go_wp2_with (have hh := hL.out (); go_at_call 93; (with_reducible refine Calls.mono hh ?_); clear hh; rintro e w1 ⟨rfl, hb1⟩)
  all_goals (go_returns; exact ⟨rfl, below_on hb0.out hb1⟩)
set_option maxRecDepth 100000 in
set_option maxHeartbeats 1000000 in
theorem fields4 (nm pr : List UInt8) (k : Int) (b : Bool) (n : Int) (t : List UInt8) (pa : Option Addr) (ph : List Int) (c : Nat) (kp : Option Addr) (kn kc : Nat) (w : World) (hT : Tabs w) (hp : V2.PathAt w pa ph) (hn : nm.length ≤ maxLen) (hpr : pr.length ≤ maxLen) (ht : t.length ≤ maxLen) (op : Int) (o1 : ¬ op = 1) (o2 : ¬ op = 2) (o3 : ¬ op = 3) :
    Calls Tryz.prog 67 #[.agg #[.int .i64 op, .slice kp kn kc, .string (txt nm), .string (txt pr), .int .i64 k, .bool b, .int .i64 n, .string (txt t), .slice pa ph.length c]] w fun e w' => e = .returned (.bool (decide (nm = []) && decide (pr = []) && zerB k b n t ph)) ∧ Below w.heap.size w w' := by
  have o1b : (op == 1) = false := by simpa using o1
  have o2b : (op == 2) = false := by simpa using o2
  have o3b : (op == 3) = false := by simpa using o3
  by_cases h1 : nm = []
  case neg =>
    have h1b := txt_eqb _ h1
    rw [show decide (nm = []) = false by simp [h1], Bool.false_and, Bool.false_and]
    generalize txt nm = NM at *
    have hb0 := below_new w (.cells #[.int .i64 op, .slice kp kn kc, .string NM, .string (txt pr), .int .i64 k, .bool b, .int .i64 n, .string (txt t), .slice pa ph.length c] 39)
    go_enter Tryz.func67, Tryz.ntmps67
    go_wp2_with fail
    all_goals first | (go_returns; exact ⟨rfl, hb0⟩) | (exfalso; simp_all; done)
  subst h1
  by_cases h2 : pr = []
  case neg =>
    have h2b := txt_eqb _ h2
    rw [show decide (([] : List UInt8) = []) = true by simp, show decide (pr = []) = false by simp [h2], Bool.true_and, Bool.false_and]
    rw [txt_nil]
    generalize txt pr = PR at *
    have hb0 := below_new w (.cells #[.int .i64 op, .slice kp kn kc, .string ⟨#[]⟩, .string PR, .int .i64 k, .bool b, .int .i64 n, .string (txt t), .slice pa ph.length c] 39)
    go_enter Tryz.func67, Tryz.ntmps67
    go_wp2_with fail
    all_goals first | (go_returns; exact ⟨rfl, hb0⟩) | (exfalso; simp_all; done)
  subst h2
  rw [show decide (([] : List UInt8) = []) = true by simp, Bool.true_and, Bool.true_and, txt_nil]
  have hb0 := below_new w (.cells #[.int .i64 op, .slice kp kn kc, .string ⟨#[]⟩, .string ⟨#[]⟩, .int .i64 k, .bool b, .int .i64 n, .string (txt t), .slice pa ph.length c] 39)
  have hL := fun (_ : Unit) => isZero_any k b n t pa ph c _ (hT.below hb0) (hp.below hb0) ht
  replace hL : Hid _ := hL
  replace hb0 : Hid _ := hb0
  go_enter Tryz.func67, Tryz.ntmps67
  go_wp2_with (have hh := hL.out (); go_at_call 94; (with_reducible refine Calls.mono hh ?_); clear hh; rintro e w1 ⟨rfl, hb1⟩)
  all_goals (go_returns; exact ⟨rfl, below_on hb0.out hb1⟩)
set_option maxRecDepth 100000 in
set_option maxHeartbeats 1000000 in
theorem fields2 (nm pr : List UInt8) (k : Int) (b : Bool) (n : Int) (t : List UInt8) (pa : Option Addr) (ph : List Int) (c : Nat) (kp : Option Addr) (kn kc : Nat) (w : World) (hT : Tabs w) (hp : V2.PathAt w pa ph) (hn : nm.length ≤ maxLen) (hpr : pr.length ≤ maxLen) (ht : t.length ≤ maxLen) :
    Calls Tryz.prog 67 #[.agg #[.int .i64 2, .slice kp kn kc, .string (txt nm), .string (txt pr), .int .i64 k, .bool b, .int .i64 n, .string (txt t), .slice pa ph.length c]] w fun e w' => e = .returned (.bool (nmB nm && decide (pr = []) && zerB k b n t ph)) ∧ Below w.heap.size w w' := by
  have hb0 := below_new w (.cells #[.int .i64 2, .slice kp kn kc, .string (txt nm), .string (txt pr), .int .i64 k, .bool b, .int .i64 n, .string (txt t), .slice pa ph.length c] 39)
  have q : ∀ i v, (#[.int .i64 2, .slice kp kn kc, .string (txt nm), .string (txt pr), .int .i64 k, .bool b, .int .i64 n, .string (txt t), .slice pa ph.length c] : Array Value)[i]? = some v → (w.alloc (.cells #[.int .i64 2, .slice kp kn kc, .string (txt nm), .string (txt pr), .int .i64 k, .bool b, .int .i64 n, .string (txt t), .slice pa ph.length c] 39)).cell? ⟨w.heap.size, i, none⟩ = some v := fun i v h => alloc_cell w h
  have q2 := q 2 (.string (txt nm)) rfl
  have q3 := q 3 (.string (txt pr)) rfl
  have q4 := q 4 (.int .i64 k) rfl
  have q5 := q 5 (.bool b) rfl
  have q6 := q 6 (.int .i64 n) rfl
  have q7 := q 7 (.string (txt t)) rfl
  have q8 := q 8 (.slice pa ph.length c) rfl
  clear q
  have hN := fun (_ : Unit) => isName_any nm _ hn (hT.below hb0)
  replace q2 : Hid _ := q2
  replace q3 : Hid _ := q3
  replace q4 : Hid _ := q4
  replace q5 : Hid _ := q5
  replace q6 : Hid _ := q6
  replace q7 : Hid _ := q7
  replace q8 : Hid _ := q8
  replace hb0 : Hid _ := hb0
  cases h1 : nmB nm
  · rw [h1] at hN
    rw [Bool.false_and, Bool.false_and]
    replace hN : Hid _ := hN
    go_enter Tryz.func67, Tryz.ntmps67
    go_wp2_with (have hh := hN.out (); go_at_call 76; (with_reducible refine Calls.mono hh ?_); clear hh; rintro e w1 ⟨rfl, hb1⟩)
    all_goals (go_returns; exact ⟨rfl, below_on hb0.out hb1⟩)
  · rw [h1] at hN
    rw [Bool.true_and]
    replace hN : Hid _ := hN
    by_cases h2 : pr = []
    case neg =>
      have h2b := txt_eqb _ h2
      rw [show decide (pr = []) = false by simp [h2], Bool.false_and]
      go_enter Tryz.func67, Tryz.ntmps67
      go_wp2_with (have hh := hN.out (); go_at_call 76; (with_reducible refine Calls.mono hh ?_); clear hh; rintro e w1 ⟨rfl, hb1⟩; have k12 := cbelow hb1 q2.out; have k13 := cbelow hb1 q3.out; have k14 := cbelow hb1 q4.out; have k15 := cbelow hb1 q5.out; have k16 := cbelow hb1 q6.out; have k17 := cbelow hb1 q7.out; have k18 := cbelow hb1 q8.out)
      all_goals first | (go_returns; exact ⟨rfl, below_on hb0.out hb1⟩) | (exfalso; simp_all; done)
    subst h2
    simp only [txt_nil] at *
    rw [show decide True = true by simp, Bool.true_and]
    have hL := fun (w1 : World) (h : Tabs w1) (h2 : V2.PathAt w1 pa ph) => isZero_any k b n t pa ph c w1 h h2 ht
    replace hL : Hid _ := hL
    go_enter Tryz.func67, Tryz.ntmps67
    go_wp2_with (first
      | (have hh := hN.out (); go_at_call 76; (with_reducible refine Calls.mono hh ?_); clear hh; rintro e w1 ⟨rfl, hb1⟩; have k12 := cbelow hb1 q2.out; have k13 := cbelow hb1 q3.out; have k14 := cbelow hb1 q4.out; have k15 := cbelow hb1 q5.out; have k16 := cbelow hb1 q6.out; have k17 := cbelow hb1 q7.out; have k18 := cbelow hb1 q8.out)
      | (have hh := hL.out _ ((hT.below hb0.out).below hb1) ((hp.below hb0.out).below hb1); go_at_call 94; (with_reducible refine Calls.mono hh ?_); clear hh; rintro e w2 ⟨rfl, hb2⟩))
    all_goals (go_returns; exact ⟨rfl, below_on (below_on hb0.out hb1) hb2⟩)
set_option maxRecDepth 100000 in
set_option maxHeartbeats 1000000 in
theorem fields3 (nm pr : List UInt8) (k : Int) (b : Bool) (n : Int) (t : List UInt8) (pa : Option Addr) (ph : List Int) (c : Nat) (kp : Option Addr) (kn kc : Nat) (w : World) (hT : Tabs w) (hp : V2.PathAt w pa ph) (hn : nm.length ≤ maxLen) (hpr : pr.length ≤ maxLen) (ht : t.length ≤ maxLen) :
    Calls Tryz.prog 67 #[.agg #[.int .i64 3, .slice kp kn kc, .string (txt nm), .string (txt pr), .int .i64 k, .bool b, .int .i64 n, .string (txt t), .slice pa ph.length c]] w fun e w' => e = .returned (.bool (nmB nm && nmB pr && zerB k b n t ph)) ∧ Below w.heap.size w w' := by
  have hb0 := below_new w (.cells #[.int .i64 3, .slice kp kn kc, .string (txt nm), .string (txt pr), .int .i64 k, .bool b, .int .i64 n, .string (txt t), .slice pa ph.length c] 39)
  have q : ∀ i v, (#[.int .i64 3, .slice kp kn kc, .string (txt nm), .string (txt pr), .int .i64 k, .bool b, .int .i64 n, .string (txt t), .slice pa ph.length c] : Array Value)[i]? = some v → (w.alloc (.cells #[.int .i64 3, .slice kp kn kc, .string (txt nm), .string (txt pr), .int .i64 k, .bool b, .int .i64 n, .string (txt t), .slice pa ph.length c] 39)).cell? ⟨w.heap.size, i, none⟩ = some v := fun i v h => alloc_cell w h
  have q2 := q 2 (.string (txt nm)) rfl
  have q3 := q 3 (.string (txt pr)) rfl
  have q4 := q 4 (.int .i64 k) rfl
  have q5 := q 5 (.bool b) rfl
  have q6 := q 6 (.int .i64 n) rfl
  have q7 := q 7 (.string (txt t)) rfl
  have q8 := q 8 (.slice pa ph.length c) rfl
  clear q
  have hN := fun (_ : Unit) => isName_any nm _ hn (hT.below hb0)
  have hP := fun (w1 : World) (h : Tabs w1) => isName_any pr w1 hpr h
  replace q2 : Hid _ := q2
  replace q3 : Hid _ := q3
  replace q4 : Hid _ := q4
  replace q5 : Hid _ := q5
  replace q6 : Hid _ := q6
  replace q7 : Hid _ := q7
  replace q8 : Hid _ := q8
  replace hb0 : Hid _ := hb0
  cases h1 : nmB nm
  · rw [h1] at hN
    rw [Bool.false_and, Bool.false_and]
    replace hN : Hid _ := hN
    go_enter Tryz.func67, Tryz.ntmps67
    go_wp2_with (have hh := hN.out (); go_at_call 76; (with_reducible refine Calls.mono hh ?_); clear hh; rintro e w1 ⟨rfl, hb1⟩)
    all_goals (go_returns; exact ⟨rfl, below_on hb0.out hb1⟩)
  · rw [h1] at hN
    rw [Bool.true_and]
    replace hN : Hid _ := hN
    cases h2 : nmB pr
    · rw [h2] at hP
      rw [Bool.false_and]
      replace hP : Hid _ := hP
      go_enter Tryz.func67, Tryz.ntmps67
      go_wp2_with (first
        | (have hh := hP.out _ ((hT.below hb0.out).below hb1); go_at_call 76; (with_reducible refine Calls.mono hh ?_); clear hh; rintro e w2 ⟨rfl, hb2⟩)
        | (have hh := hN.out (); go_at_call 76; (with_reducible refine Calls.mono hh ?_); clear hh hN; rintro e w1 ⟨rfl, hb1⟩; have k12 := cbelow hb1 q2.out; have k13 := cbelow hb1 q3.out; have k14 := cbelow hb1 q4.out; have k15 := cbelow hb1 q5.out; have k16 := cbelow hb1 q6.out; have k17 := cbelow hb1 q7.out; have k18 := cbelow hb1 q8.out))
      all_goals (go_returns; exact ⟨rfl, below_on (below_on hb0.out hb1) hb2⟩)
    · rw [h2] at hP
      rw [Bool.true_and]
      replace hP : Hid _ := hP
      have hL := fun (w1 : World) (h : Tabs w1) (h2 : V2.PathAt w1 pa ph) => isZero_any k b n t pa ph c w1 h h2 ht
      replace hL : Hid _ := hL
      go_enter Tryz.func67, Tryz.ntmps67
      go_wp2_with (first
        | (have hh := hL.out _ (((hT.below hb0.out).below hb1).below hb2) (((hp.below hb0.out).below hb1).below hb2); go_at_call 94; (with_reducible refine Calls.mono hh ?_); clear hh; rintro e w3 ⟨rfl, hb3⟩)
        | (have hh := hP.out _ ((hT.below hb0.out).below hb1); go_at_call 76; (with_reducible refine Calls.mono hh ?_); clear hh hP; rintro e w2 ⟨rfl, hb2⟩; have k22 := cbelow hb2 k12; have k23 := cbelow hb2 k13; have k24 := cbelow hb2 k14; have k25 := cbelow hb2 k15; have k26 := cbelow hb2 k16; have k27 := cbelow hb2 k17; have k28 := cbelow hb2 k18)
        | (have hh := hN.out (); go_at_call 76; (with_reducible refine Calls.mono hh ?_); clear hh hN; rintro e w1 ⟨rfl, hb1⟩; have k12 := cbelow hb1 q2.out; have k13 := cbelow hb1 q3.out; have k14 := cbelow hb1 q4.out; have k15 := cbelow hb1 q5.out; have k16 := cbelow hb1 q6.out; have k17 := cbelow hb1 q7.out; have k18 := cbelow hb1 q8.out))
      all_goals (go_returns; exact ⟨rfl, below_on (below_on (below_on hb0.out hb1) hb2) hb3⟩)
theorem fields_any (op : Int) (nm pr : List UInt8) (k : Int) (b : Bool) (n : Int) (t : List UInt8) (pa : Option Addr) (ph : List Int) (c : Nat) (kp : Option Addr) (kn kc : Nat) (w : World) (hT : Tabs w) (hp : V2.PathAt w pa ph) (hn : nm.length ≤ maxLen) (hpr : pr.length ≤ maxLen) (ht : t.length ≤ maxLen) :
    Calls Tryz.prog 67 #[.agg #[.int .i64 op, .slice kp kn kc, .string (txt nm), .string (txt pr), .int .i64 k, .bool b, .int .i64 n, .string (txt t), .slice pa ph.length c]] w fun e w' => e = .returned (.bool (fldB op nm pr k b n t ph)) ∧ Below w.heap.size w w' := by
  unfold fldB
  by_cases o1 : op = 1
  · subst o1
    exact fields1 nm pr k b n t pa ph c kp kn kc w hT hp hn hpr ht
  rw [if_neg o1]
  by_cases o2 : op = 2
  · subst o2
    exact fields2 nm pr k b n t pa ph c kp kn kc w hT hp hn hpr ht
  rw [if_neg o2]
  by_cases o3 : op = 3
  · subst o3
    exact fields3 nm pr k b n t pa ph c kp kn kc w hT hp hn hpr ht
  rw [if_neg o3]
  exact fields4 nm pr k b n t pa ph c kp kn kc w hT hp hn hpr ht op o1 o2 o3
end Go.Proofs.YtkcnpbckmdgfnaaGreatDoor
