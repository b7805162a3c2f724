/-
  The document's fields: has an expression just those that its Op has?
-/
import Derived.Test.YtkcnpbckmdgfnaaGreatDoorRpz
import Derived.Test.YtkcnpbckmdgfnaaGreatDoorVrr
import Derived.Deep.QuietTactic
import Derived.BigQuiet
namespace Go.Proofs.YtkcnpbckmdgfnaaGreatDoor
open Go.ChangeShapes Go.WideShapes Go.ChangeAt Go.RowKit
set_option linter.unusedSimpArgs false
set_option linter.unusedVariables false

def kidN (op : Int) : Nat := if 4 ≤ op ∧ op ≤ 16 then 2 else if 17 ≤ op ∧ op ≤ 25 then 1 else 0
theorem kidN_is (op : Int) (h : isOp op = true) : (fmOf op).pl.length = kidN op := by
  have h2 := h
  unfold isOp at h2
  rw [Bool.and_eq_true, decide_eq_true_iff, decide_eq_true_iff] at h2
  have e : op = ((op.toNat : Nat) : Int) := by omega
  have hn : op.toNat < 27 := by omega
  rw [e]
  revert hn
  generalize op.toNat = m
  intro hn
  have : ∀ m : Nat, m < 27 → (fmOf (m : Int)).pl.length = kidN (m : Int) ∨ m = 0 := by decide
  rcases this m hn with h3 | h3
  · exact h3
  · subst h3
    decide
set_option maxRecDepth 100000 in
theorem kids_any (op : Int) (w : World) : Calls Tryz.prog 77 #[.int .i64 op] w fun e w' => e = .returned (.int .i64 (kidN op)) ∧ w' = w := by
  by_cases h1 : 4 ≤ op ∧ op ≤ 16
  · obtain ⟨h1a, h1b⟩ := h1
    rw [show kidN op = 2 from if_pos ⟨h1a, h1b⟩]
    go_enter Tryz.func77, Tryz.ntmps77
    go_wp2_with fail
    all_goals first | (exfalso; omega) | (go_returns; exact ⟨rfl, rfl⟩)
  · by_cases h2 : 17 ≤ op ∧ op ≤ 25
    · rw [show kidN op = 1 by unfold kidN; rw [if_neg h1, if_pos h2]]
      obtain ⟨h2a, h2b⟩ := h2
      go_enter Tryz.func77, Tryz.ntmps77
      go_wp2_with fail
      all_goals first | (exfalso; omega) | (go_returns; exact ⟨rfl, rfl⟩)
    · rw [show kidN op = 0 by unfold kidN; rw [if_neg h1, if_neg h2]]
      by_cases h3 : 4 ≤ op
      · have h4 : ¬ op ≤ 16 := fun h => h1 ⟨h3, h⟩
        by_cases h5 : 17 ≤ op
        · have h6 : ¬ op ≤ 25 := fun h => h2 ⟨h5, h⟩
          go_enter Tryz.func77, Tryz.ntmps77
          go_wp2_with fail
          all_goals first | (exfalso; omega) | (go_returns; exact ⟨rfl, rfl⟩)
        · exfalso; omega
      · have h5 : ¬ 17 ≤ op := by omega
        go_enter Tryz.func77, Tryz.ntmps77
        go_wp2_with fail
        all_goals first | (exfalso; omega) | (go_returns; exact ⟨rfl, rfl⟩)
/-- The document's Right of a value. -/
theorem rright_val (k : Int) (b : Bool) (n : Int) (t : List UInt8) (pa : Option Addr) (ph : List Int) (c : Nat) (w : World) (hT : Tabs w) (hp : V2.PathAt w pa ph) (ht : t.length ≤ maxLen) :
    Calls Tryz.prog 78 #[.agg #[.int .i64 k, .bool b, .int .i64 n, .string (txt t), .slice pa ph.length c]] w fun e w' => e = .returned (.bool (rgV k b n t ph)) ∧ Below w.heap.size w w' := by
  refine V2.refRight_any k b n (txt t) pa ph.length c ph (Lib.validD t) w rfl hp fun w' hb => ?_
  have := Tryz.validString (txt t) w' (by rw [txt_size]; unfold maxLen at ht; omega) (hT.below hb).u8
  rw [txt_list] at this
  exact this

def fldR (op : Int) (nm pr : List UInt8) (k : Int) (b : Bool) (n : Int) (t : List UInt8) (ph : List Int) : Bool :=
  (decide (op = 2 ∨ op = 3) || decide (nm = [])) && (decide (op = 3) || decide (pr = [])) && (if op = 1 then litB k b n t ph else zerB k b n t ph)
set_option maxRecDepth 100000 in
theorem rf_out (op : Int) (nm pr : List UInt8) (k : Int) (b : Bool) (n : Int) (t : List UInt8) (pa : Option Addr) (ph : List Int) (c : Nat) (kp : Option Addr) (kn kc : Nat) (w : World) (h : isOp op = false) :
    Calls Tryz.prog 44 #[.agg #[.int .i64 op, .slice kp kn kc, .string (txt nm), .string (txt pr), .int .i64 k, .bool b, .int .i64 n, .string (txt t), .slice pa ph.length c]] w fun e w' => e = .returned (.bool false) ∧ Below w.heap.size w w' := by
  have hb0 := below_new w (.cells #[.int .i64 op, .slice kp kn kc, .string (txt nm), .string (txt pr), .int .i64 k, .bool b, .int .i64 n, .string (txt t), .slice pa ph.length c] 39)
  by_cases o1 : 1 ≤ op
  · by_cases o2 : op ≤ 26
    · simp [isOp, o1, o2] at h
    · have o1b : decide (op < 1) = false := by simp; omega
      have o2b : decide (26 < op) = true := by simp; omega
      go_enter Tryz.func44, Tryz.ntmps44
      go_wp2_with fail
      go_quiet ((fail))
      go_wp2_with fail
      all_goals first | (exfalso; omega) | (go_returns; exact ⟨rfl, below_drewN7 hb0 _⟩)
  · have o1b : decide (op < 1) = true := by simp; omega
    go_enter Tryz.func44, Tryz.ntmps44
    go_wp2_with fail
    go_quiet ((fail))
    go_wp2_with fail
    all_goals first | (exfalso; omega) | (go_returns; exact ⟨rfl, below_drewN7 hb0 _⟩)
set_option maxRecDepth 100000 in
theorem rf_kids (op : Int) (nm pr : List UInt8) (k : Int) (b : Bool) (n : Int) (t : List UInt8) (pa : Option Addr) (ph : List Int) (c : Nat) (kp : Option Addr) (kn kc : Nat) (w : World) (h : isOp op = true) (hk : kn ≠ kidN op) :
    Calls Tryz.prog 44 #[.agg #[.int .i64 op, .slice kp kn kc, .string (txt nm), .string (txt pr), .int .i64 k, .bool b, .int .i64 n, .string (txt t), .slice pa ph.length c]] w fun e w' => e = .returned (.bool false) ∧ Below w.heap.size w w' := by
  have hb0 := below_new w (.cells #[.int .i64 op, .slice kp kn kc, .string (txt nm), .string (txt pr), .int .i64 k, .bool b, .int .i64 n, .string (txt t), .slice pa ph.length c] 39)
  unfold isOp at h
  rw [Bool.and_eq_true, decide_eq_true_iff, decide_eq_true_iff] at h
  obtain ⟨o1, o2⟩ := h
  have o1b : decide (op < 1) = false := by simp; omega
  have o2b : decide (26 < op) = false := by simp; omega
  have hkb : ((kn : Int) == (kidN op : Int)) = false := by simpa using fun e => hk (by omega)
  go_enter Tryz.func44, Tryz.ntmps44
  go_wp2_with fail
  go_quiet ((go_at_call 77; exact Calls.quiet_of_same (kids_any op _)))
  go_wp2_with fail
  all_goals first | (exfalso; omega) | (go_returns; exact ⟨rfl, below_drewN7 hb0 _⟩)
theorem b78 (w : World) (A B : Obj) (nq : Nat) : Below w.heap.size w (((w.alloc A).drewN nq).alloc B) :=
  below_on (below_drewN7 (below_new w A) nq) (below_new _ B)
theorem c78 (w : World) (A : Obj) (cs : Array Value) (nq : Nat) (i : Nat) (v : Value) {T : Nat} (h : cs[i]? = some v) : (((w.alloc A).drewN nq).alloc (.cells cs T)).cell? ⟨w.heap.size + 1, i, none⟩ = some v := by
  have := alloc_cell (w := (w.alloc A).drewN nq) (cs := cs) (t := T) (i := i) h
  have e : ((w.alloc A).drewN nq).heap.size = w.heap.size + 1 := by
    show (w.heap.push A).size = _
    exact Array.size_push ..
  rw [e] at this
  exact this
theorem d78 (w : World) (B : Obj) (cs : Array Value) (nq : Nat) (i : Nat) (v : Value) {T : Nat} (h : cs[i]? = some v) : (((w.alloc (.cells cs T)).drewN nq).alloc B).cell? ⟨w.heap.size, i, none⟩ = some v :=
  cbelow (below_on (below_drewN7 (Below.refl _ _) nq) (below_new _ B)) (alloc_cell w h)
theorem rgV_zero {k : Int} {b : Bool} {n : Int} {t : List UInt8} {ph : List Int} (hk : k ≤ 3) (h2 : k ≠ 2) (h : rgV k b n t ph = true) : 0 ≤ n := by
  unfold rgV V2.rgtB at h
  rw [Bool.and_eq_true] at h
  have h1 := h.1
  unfold V2.othB at h1
  have : n = 0 := by
    apply Classical.byContradiction
    intro h0
    simp [h2, h0] at h1
    rcases h1.1.1.2 with e | e <;> omega
  omega
set_option maxRecDepth 100000 in
set_option maxHeartbeats 1000000 in
theorem rf_three (nm pr : List UInt8) (k : Int) (b : Bool) (n : Int) (t : List UInt8) (pa : Option Addr) (ph : List Int) (c : Nat) (kp : Option Addr) (kc : Nat) (w : World) (hT : Tabs w) (hp : V2.PathAt w pa ph) (ht : t.length ≤ maxLen) :
    Calls Tryz.prog 44 #[.agg #[.int .i64 3, .slice kp 0 kc, .string (txt nm), .string (txt pr), .int .i64 k, .bool b, .int .i64 n, .string (txt t), .slice pa ph.length c]] w fun e w' => e = .returned (.bool (zerB k b n t ph)) ∧ Below w.heap.size w w' := by
  have hR := fun (w1 : World) (h : Tabs w1) (h2 : V2.PathAt w1 pa ph) => rright_val k b n t pa ph c w1 h h2 ht
  replace hT : Hid (Tabs w) := hT
  replace hp : Hid (V2.PathAt w pa ph) := hp
  have hK : Hid (∀ w1, Calls Tryz.prog 77 #[.int .i64 3] w1 fun e w' => e = .returned (.int .i64 0) ∧ w' = w1) := kids_any 3
  have hb0 : Hid _ := below_new w (.cells #[.int .i64 3, .slice kp 0 kc, .string (txt nm), .string (txt pr), .int .i64 k, .bool b, .int .i64 n, .string (txt t), .slice pa ph.length c] 39)
  cases hr : rgV k b n t ph
  · rw [hr] at hR
    replace hR : Hid _ := hR
    rw [show zerB k b n t ph = false by simp [zerB, hr]]
    go_enter Tryz.func44, Tryz.ntmps44
    go_wp2_with fail
    go_quiet ((go_at_call 77; exact Calls.quiet_of_same (hK.out _)))
    go_wp2_with (go_at_call 78; (with_reducible refine Calls.mono (hR.out _ (hT.out.below (b78 _ _ _ _)) (hp.out.below (b78 _ _ _ _))) ?_); rintro e w3 ⟨rfl, hb3⟩; have k0 := cbelow hb3 (c78 w _ _ _ 0 (.int .i64 k) rfl); have k2 := cbelow hb3 (c78 w _ _ _ 2 (.int .i64 n) rfl); have k3 := cbelow hb3 (d78 w _ _ _ 0 _ rfl))
    all_goals first | (exfalso; omega) | (go_returns; exact ⟨rfl, below_on (b78 _ _ _ _) hb3⟩)
  · have hr2 := hr
    rw [hr] at hR
    replace hR : Hid _ := hR
    by_cases hk : k = 0
    · subst hk
      rw [show zerB 0 b n t ph = true by simp [zerB, hr2]]
      go_enter Tryz.func44, Tryz.ntmps44
      go_wp2_with fail
      go_quiet ((go_at_call 77; exact Calls.quiet_of_same (hK.out _)))
      go_wp2_with (go_at_call 78; (with_reducible refine Calls.mono (hR.out _ (hT.out.below (b78 _ _ _ _)) (hp.out.below (b78 _ _ _ _))) ?_); rintro e w3 ⟨rfl, hb3⟩; have k0 := cbelow hb3 (c78 w _ _ _ 0 (.int .i64 0) rfl); have k2 := cbelow hb3 (c78 w _ _ _ 2 (.int .i64 n) rfl); have k3 := cbelow hb3 (d78 w _ _ _ 0 _ rfl))
      all_goals first | (exfalso; omega) | (go_returns; exact ⟨rfl, below_on (b78 _ _ _ _) hb3⟩)
    · rw [show zerB k b n t ph = false by simp [zerB, hk]]
      have hk2 : (k == 0) = false := by simpa using hk
      go_enter Tryz.func44, Tryz.ntmps44
      go_wp2_with fail
      go_quiet ((go_at_call 77; exact Calls.quiet_of_same (hK.out _)))
      go_wp2_with (go_at_call 78; (with_reducible refine Calls.mono (hR.out _ (hT.out.below (b78 _ _ _ _)) (hp.out.below (b78 _ _ _ _))) ?_); rintro e w3 ⟨rfl, hb3⟩; have k0 := cbelow hb3 (c78 w _ _ _ 0 (.int .i64 k) rfl); have k2 := cbelow hb3 (c78 w _ _ _ 2 (.int .i64 n) rfl); have k3 := cbelow hb3 (d78 w _ _ _ 0 _ rfl))
      all_goals first | (exfalso; omega) | (go_returns; exact ⟨rfl, below_on (b78 _ _ _ _) hb3⟩)
set_option maxRecDepth 100000 in
set_option maxHeartbeats 1000000 in
theorem rf_two (nm pr : List UInt8) (k : Int) (b : Bool) (n : Int) (t : List UInt8) (pa : Option Addr) (ph : List Int) (c : Nat) (kp : Option Addr) (kc : Nat) (w : World) (hT : Tabs w) (hp : V2.PathAt w pa ph) (ht : t.length ≤ maxLen) :
    Calls Tryz.prog 44 #[.agg #[.int .i64 2, .slice kp 0 kc, .string (txt nm), .string (txt pr), .int .i64 k, .bool b, .int .i64 n, .string (txt t), .slice pa ph.length c]] w fun e w' => e = .returned (.bool (decide (pr = []) && zerB k b n t ph)) ∧ Below w.heap.size w w' := by
  have hR := fun (w1 : World) (h : Tabs w1) (h2 : V2.PathAt w1 pa ph) => rright_val k b n t pa ph c w1 h h2 ht
  replace hT : Hid (Tabs w) := hT
  replace hp : Hid (V2.PathAt w pa ph) := hp
  have hK : Hid (∀ w1, Calls Tryz.prog 77 #[.int .i64 2] w1 fun e w' => e = .returned (.int .i64 0) ∧ w' = w1) := kids_any 2
  by_cases h2 : pr = []
  case neg =>
    have h2b := txt_eqb _ h2
    rw [show decide (pr = []) = false by simp [h2], Bool.false_and]
    generalize txt pr = PR at *
    have hb0 : Hid _ := below_new w (.cells #[.int .i64 2, .slice kp 0 kc, .string (txt nm), .string PR, .int .i64 k, .bool b, .int .i64 n, .string (txt t), .slice pa ph.length c] 39)
    go_enter Tryz.func44, Tryz.ntmps44
    go_wp2_with fail
    go_quiet ((go_at_call 77; exact Calls.quiet_of_same (hK.out _)))
    go_wp2_with fail
    all_goals first | (exfalso; omega) | (go_returns; exact ⟨rfl, below_drewN7 hb0.out _⟩)
  subst h2
  rw [show decide (([] : List UInt8) = []) = true by simp, Bool.true_and, txt_nil]
  have hb0 : Hid _ := below_new w (.cells #[.int .i64 2, .slice kp 0 kc, .string (txt nm), .string ⟨#[]⟩, .int .i64 k, .bool b, .int .i64 n, .string (txt t), .slice pa ph.length c] 39)
  cases hr : rgV k b n t ph
  · rw [hr] at hR
    replace hR : Hid _ := hR
    rw [show zerB k b n t ph = false by simp [zerB, hr]]
    go_enter Tryz.func44, Tryz.ntmps44
    go_wp2_with fail
    go_quiet ((go_at_call 77; exact Calls.quiet_of_same (hK.out _)))
    go_wp2_with (go_at_call 78; (with_reducible refine Calls.mono (hR.out _ (hT.out.below (b78 _ _ _ _)) (hp.out.below (b78 _ _ _ _))) ?_); rintro e w3 ⟨rfl, hb3⟩; have k0 := cbelow hb3 (c78 w _ _ _ 0 (.int .i64 k) rfl); have k2 := cbelow hb3 (c78 w _ _ _ 2 (.int .i64 n) rfl); have k3 := cbelow hb3 (d78 w _ _ _ 0 _ rfl))
    all_goals first | (exfalso; omega) | (go_returns; exact ⟨rfl, below_on (b78 _ _ _ _) hb3⟩)
  · have hr2 := hr
    rw [hr] at hR
    replace hR : Hid _ := hR
    by_cases hk : k = 0
    · subst hk
      rw [show zerB 0 b n t ph = true by simp [zerB, hr2]]
      go_enter Tryz.func44, Tryz.ntmps44
      go_wp2_with fail
      go_quiet ((go_at_call 77; exact Calls.quiet_of_same (hK.out _)))
      go_wp2_with (go_at_call 78; (with_reducible refine Calls.mono (hR.out _ (hT.out.below (b78 _ _ _ _)) (hp.out.below (b78 _ _ _ _))) ?_); rintro e w3 ⟨rfl, hb3⟩; have k0 := cbelow hb3 (c78 w _ _ _ 0 (.int .i64 0) rfl); have k2 := cbelow hb3 (c78 w _ _ _ 2 (.int .i64 n) rfl); have k3 := cbelow hb3 (d78 w _ _ _ 0 _ rfl))
      all_goals first | (exfalso; omega) | (go_returns; exact ⟨rfl, below_on (b78 _ _ _ _) hb3⟩)
    · rw [show zerB k b n t ph = false by simp [zerB, hk]]
      have hk2 : (k == 0) = false := by simpa using hk
      go_enter Tryz.func44, Tryz.ntmps44
      go_wp2_with fail
      go_quiet ((go_at_call 77; exact Calls.quiet_of_same (hK.out _)))
      go_wp2_with (go_at_call 78; (with_reducible refine Calls.mono (hR.out _ (hT.out.below (b78 _ _ _ _)) (hp.out.below (b78 _ _ _ _))) ?_); rintro e w3 ⟨rfl, hb3⟩; have k0 := cbelow hb3 (c78 w _ _ _ 0 (.int .i64 k) rfl); have k2 := cbelow hb3 (c78 w _ _ _ 2 (.int .i64 n) rfl); have k3 := cbelow hb3 (d78 w _ _ _ 0 _ rfl))
      all_goals first | (exfalso; omega) | (go_returns; exact ⟨rfl, below_on (b78 _ _ _ _) hb3⟩)
set_option maxRecDepth 100000 in
set_option maxHeartbeats 1000000 in
theorem rf_one (nm pr : List UInt8) (k : Int) (b : Bool) (n : Int) (t : List UInt8) (pa : Option Addr) (ph : List Int) (c : Nat) (kp : Option Addr) (kc : Nat) (w : World) (hT : Tabs w) (hp : V2.PathAt w pa ph) (ht : t.length ≤ maxLen) :
    Calls Tryz.prog 44 #[.agg #[.int .i64 1, .slice kp 0 kc, .string (txt nm), .string (txt pr), .int .i64 k, .bool b, .int .i64 n, .string (txt t), .slice pa ph.length c]] w fun e w' => e = .returned (.bool (decide (nm = []) && decide (pr = []) && litB k b n t ph)) ∧ Below w.heap.size w w' := by
  have hR := fun (w1 : World) (h : Tabs w1) (h2 : V2.PathAt w1 pa ph) => rright_val k b n t pa ph c w1 h h2 ht
  replace hT : Hid (Tabs w) := hT
  replace hp : Hid (V2.PathAt w pa ph) := hp
  have hK : Hid (∀ w1, Calls Tryz.prog 77 #[.int .i64 1] w1 fun e w' => e = .returned (.int .i64 0) ∧ w' = w1) := kids_any 1
  by_cases h1 : nm = []
  case neg =>
    have h1b := txt_eqb _ h1
    rw [show decide (nm = []) = false by simp [h1], Bool.false_and, Bool.false_and]
    generalize txt nm = NM at *
    have hb0 : Hid _ := below_new w (.cells #[.int .i64 1, .slice kp 0 kc, .string NM, .string (txt pr), .int .i64 k, .bool b, .int .i64 n, .string (txt t), .slice pa ph.length c] 39)
    go_enter Tryz.func44, Tryz.ntmps44
    go_wp2_with fail
    go_quiet ((go_at_call 77; exact Calls.quiet_of_same (hK.out _)))
    go_wp2_with fail
    all_goals first | (exfalso; omega) | (go_returns; exact ⟨rfl, below_drewN7 hb0.out _⟩)
  subst h1
  by_cases h2 : pr = []
  case neg =>
    have h2b := txt_eqb _ h2
    rw [show decide (([] : List UInt8) = []) = true by simp, show decide (pr = []) = false by simp [h2], Bool.true_and, Bool.false_and]
    rw [txt_nil]
    generalize txt pr = PR at *
    have hb0 : Hid _ := below_new w (.cells #[.int .i64 1, .slice kp 0 kc, .string ⟨#[]⟩, .string PR, .int .i64 k, .bool b, .int .i64 n, .string (txt t), .slice pa ph.length c] 39)
    go_enter Tryz.func44, Tryz.ntmps44
    go_wp2_with fail
    go_quiet ((go_at_call 77; exact Calls.quiet_of_same (hK.out _)))
    go_wp2_with fail
    all_goals first | (exfalso; omega) | (go_returns; exact ⟨rfl, below_drewN7 hb0.out _⟩)
  subst h2
  rw [show decide (([] : List UInt8) = []) = true by simp, Bool.true_and, Bool.true_and, txt_nil]
  have hb0 : Hid _ := below_new w (.cells #[.int .i64 1, .slice kp 0 kc, .string ⟨#[]⟩, .string ⟨#[]⟩, .int .i64 k, .bool b, .int .i64 n, .string (txt t), .slice pa ph.length c] 39)
  cases hr : rgV k b n t ph
  · rw [hr] at hR
    replace hR : Hid _ := hR
    rw [show litB k b n t ph = false by simp [litB, hr]]
    go_enter Tryz.func44, Tryz.ntmps44
    go_wp2_with fail
    go_quiet ((go_at_call 77; exact Calls.quiet_of_same (hK.out _)))
    go_wp2_with (go_at_call 78; (with_reducible refine Calls.mono (hR.out _ (hT.out.below (b78 _ _ _ _)) (hp.out.below (b78 _ _ _ _))) ?_); rintro e w3 ⟨rfl, hb3⟩; have k0 := cbelow hb3 (c78 w _ _ _ 0 (.int .i64 k) rfl); have k2 := cbelow hb3 (c78 w _ _ _ 2 (.int .i64 n) rfl); have k3 := cbelow hb3 (d78 w _ _ _ 0 _ rfl))
    all_goals first | (exfalso; omega) | (go_returns; exact ⟨rfl, below_on (b78 _ _ _ _) hb3⟩)
  · have hr2 := hr
    rw [hr] at hR
    replace hR : Hid _ := hR
    by_cases hk : k ≤ 3
    case neg =>
      rw [show litB k b n t ph = false by simp [litB, hk]]
      have hk2 : decide (k ≤ 3) = false := by simpa using hk
      go_enter Tryz.func44, Tryz.ntmps44
      go_wp2_with fail
      go_quiet ((go_at_call 77; exact Calls.quiet_of_same (hK.out _)))
      go_wp2_with (go_at_call 78; (with_reducible refine Calls.mono (hR.out _ (hT.out.below (b78 _ _ _ _)) (hp.out.below (b78 _ _ _ _))) ?_); rintro e w3 ⟨rfl, hb3⟩; have k0 := cbelow hb3 (c78 w _ _ _ 0 (.int .i64 k) rfl); have k2 := cbelow hb3 (c78 w _ _ _ 2 (.int .i64 n) rfl); have k3 := cbelow hb3 (d78 w _ _ _ 0 _ rfl))
      all_goals first | (exfalso; omega) | (go_returns; exact ⟨rfl, below_on (b78 _ _ _ _) hb3⟩)
    have hk2 : decide (k ≤ 3) = true := by simpa using hk
    by_cases h2 : k = 2
    case neg =>
      have h2b : (k == 2) = false := by simpa using h2
      rw [show litB k b n t ph = true by simp [litB, hk, hr2, rgV_zero hk h2 hr2]]
      go_enter Tryz.func44, Tryz.ntmps44
      go_wp2_with fail
      go_quiet ((go_at_call 77; exact Calls.quiet_of_same (hK.out _)))
      go_wp2_with (go_at_call 78; (with_reducible refine Calls.mono (hR.out _ (hT.out.below (b78 _ _ _ _)) (hp.out.below (b78 _ _ _ _))) ?_); rintro e w3 ⟨rfl, hb3⟩; have k0 := cbelow hb3 (c78 w _ _ _ 0 (.int .i64 k) rfl); have k2 := cbelow hb3 (c78 w _ _ _ 2 (.int .i64 n) rfl); have k3 := cbelow hb3 (d78 w _ _ _ 0 _ rfl))
      all_goals first | (exfalso; omega) | (go_returns; exact ⟨rfl, below_on (b78 _ _ _ _) hb3⟩)
    subst h2
    by_cases h3 : 0 ≤ n
    · have h3b : decide (0 ≤ n) = true := by simpa using h3
      rw [show litB 2 b n t ph = true by simp [litB, hr2, h3]]
      go_enter Tryz.func44, Tryz.ntmps44
      go_wp2_with fail
      go_quiet ((go_at_call 77; exact Calls.quiet_of_same (hK.out _)))
      go_wp2_with (go_at_call 78; (with_reducible refine Calls.mono (hR.out _ (hT.out.below (b78 _ _ _ _)) (hp.out.below (b78 _ _ _ _))) ?_); rintro e w3 ⟨rfl, hb3⟩; have k0 := cbelow hb3 (c78 w _ _ _ 0 (.int .i64 2) rfl); have k2 := cbelow hb3 (c78 w _ _ _ 2 (.int .i64 n) rfl); have k3 := cbelow hb3 (d78 w _ _ _ 0 _ rfl))
      all_goals first | (exfalso; omega) | (go_returns; exact ⟨rfl, below_on (b78 _ _ _ _) hb3⟩)
    · have h3b : decide (0 ≤ n) = false := by simpa using h3
      rw [show litB 2 b n t ph = false by simp [litB, h3]]
      go_enter Tryz.func44, Tryz.ntmps44
      go_wp2_with fail
      go_quiet ((go_at_call 77; exact Calls.quiet_of_same (hK.out _)))
      go_wp2_with (go_at_call 78; (with_reducible refine Calls.mono (hR.out _ (hT.out.below (b78 _ _ _ _)) (hp.out.below (b78 _ _ _ _))) ?_); rintro e w3 ⟨rfl, hb3⟩; have k0 := cbelow hb3 (c78 w _ _ _ 0 (.int .i64 2) rfl); have k2 := cbelow hb3 (c78 w _ _ _ 2 (.int .i64 n) rfl); have k3 := cbelow hb3 (d78 w _ _ _ 0 _ rfl))
      all_goals first | (exfalso; omega) | (go_returns; exact ⟨rfl, below_on (b78 _ _ _ _) hb3⟩)
set_option maxRecDepth 100000 in
set_option maxHeartbeats 1000000 in
theorem rf_rest (nm pr : List UInt8) (k : Int) (b : Bool) (n : Int) (t : List UInt8) (pa : Option Addr) (ph : List Int) (c : Nat) (kp : Option Addr) (kc : Nat) (w : World) (hT : Tabs w) (hp : V2.PathAt w pa ph) (ht : t.length ≤ maxLen) (op : Int) (N : Nat) (o4 : 4 ≤ op) (o26 : op ≤ 26) (hK : ∀ w1, Calls Tryz.prog 77 #[.int .i64 op] w1 fun e w' => e = .returned (.int .i64 N) ∧ w' = w1) :
    Calls Tryz.prog 44 #[.agg #[.int .i64 op, .slice kp N kc, .string (txt nm), .string (txt pr), .int .i64 k, .bool b, .int .i64 n, .string (txt t), .slice pa ph.length c]] w fun e w' => e = .returned (.bool (decide (nm = []) && decide (pr = []) && zerB k b n t ph)) ∧ Below w.heap.size w w' := by
  have hR := fun (w1 : World) (h : Tabs w1) (h2 : V2.PathAt w1 pa ph) => rright_val k b n t pa ph c w1 h h2 ht
  replace hT : Hid (Tabs w) := hT
  replace hp : Hid (V2.PathAt w pa ph) := hp
  have o1b : decide (op < 1) = false := by simp; omega
  have o2b : decide (26 < op) = false := by simp; omega
  have e1 : (op == 1) = false := by simp; omega
  have e2 : (op == 2) = false := by simp; omega
  have e3 : (op == 3) = false := by simp; omega
  replace hK : Hid _ := hK
  by_cases h1 : nm = []
  case neg =>
    have h1b := txt_eqb _ h1
    rw [show decide (nm = []) = false by simp [h1], Bool.false_and, Bool.false_and]
    generalize txt nm = NM at *
    have hb0 : Hid _ := below_new w (.cells #[.int .i64 op, .slice kp N kc, .string NM, .string (txt pr), .int .i64 k, .bool b, .int .i64 n, .string (txt t), .slice pa ph.length c] 39)
    go_enter Tryz.func44, Tryz.ntmps44
    go_wp2_with fail
    go_quiet ((go_at_call 77; exact Calls.quiet_of_same (hK.out _)))
    go_wp2_with fail
    all_goals first | (exfalso; omega) | (go_returns; exact ⟨rfl, below_drewN7 hb0.out _⟩)
  subst h1
  by_cases h2 : pr = []
  case neg =>
    have h2b := txt_eqb _ h2
    rw [show decide (([] : List UInt8) = []) = true by simp, show decide (pr = []) = false by simp [h2], Bool.true_and, Bool.false_and]
    rw [txt_nil]
    generalize txt pr = PR at *
    have hb0 : Hid _ := below_new w (.cells #[.int .i64 op, .slice kp N kc, .string ⟨#[]⟩, .string PR, .int .i64 k, .bool b, .int .i64 n, .string (txt t), .slice pa ph.length c] 39)
    go_enter Tryz.func44, Tryz.ntmps44
    go_wp2_with fail
    go_quiet ((go_at_call 77; exact Calls.quiet_of_same (hK.out _)))
    go_wp2_with fail
    all_goals first | (exfalso; omega) | (go_returns; exact ⟨rfl, below_drewN7 hb0.out _⟩)
  subst h2
  rw [show decide (([] : List UInt8) = []) = true by simp, Bool.true_and, Bool.true_and, txt_nil]
  have hb0 : Hid _ := below_new w (.cells #[.int .i64 op, .slice kp N kc, .string ⟨#[]⟩, .string ⟨#[]⟩, .int .i64 k, .bool b, .int .i64 n, .string (txt t), .slice pa ph.length c] 39)
  cases hr : rgV k b n t ph
  · rw [hr] at hR
    replace hR : Hid _ := hR
    rw [show zerB k b n t ph = false by simp [zerB, hr]]
    go_enter Tryz.func44, Tryz.ntmps44
    go_wp2_with fail
    go_quiet ((go_at_call 77; exact Calls.quiet_of_same (hK.out _)))
    go_wp2_with (go_at_call 78; (with_reducible refine Calls.mono (hR.out _ (hT.out.below (b78 _ _ _ _)) (hp.out.below (b78 _ _ _ _))) ?_); rintro e w3 ⟨rfl, hb3⟩; have k0 := cbelow hb3 (c78 w _ _ _ 0 (.int .i64 k) rfl); have k2 := cbelow hb3 (c78 w _ _ _ 2 (.int .i64 n) rfl); have k3 := cbelow hb3 (d78 w _ _ _ 0 _ rfl))
    all_goals first | (exfalso; omega) | (go_returns; exact ⟨rfl, below_on (b78 _ _ _ _) hb3⟩)
  · have hr2 := hr
    rw [hr] at hR
    replace hR : Hid _ := hR
    by_cases hk : k = 0
    · subst hk
      rw [show zerB 0 b n t ph = true by simp [zerB, hr2]]
      go_enter Tryz.func44, Tryz.ntmps44
      go_wp2_with fail
      go_quiet ((go_at_call 77; exact Calls.quiet_of_same (hK.out _)))
      go_wp2_with (go_at_call 78; (with_reducible refine Calls.mono (hR.out _ (hT.out.below (b78 _ _ _ _)) (hp.out.below (b78 _ _ _ _))) ?_); rintro e w3 ⟨rfl, hb3⟩; have k0 := cbelow hb3 (c78 w _ _ _ 0 (.int .i64 0) rfl); have k2 := cbelow hb3 (c78 w _ _ _ 2 (.int .i64 n) rfl); have k3 := cbelow hb3 (d78 w _ _ _ 0 _ rfl))
      all_goals first | (exfalso; omega) | (go_returns; exact ⟨rfl, below_on (b78 _ _ _ _) hb3⟩)
    · rw [show zerB k b n t ph = false by simp [zerB, hk]]
      have hk2 : (k == 0) = false := by simpa using hk
      go_enter Tryz.func44, Tryz.ntmps44
      go_wp2_with fail
      go_quiet ((go_at_call 77; exact Calls.quiet_of_same (hK.out _)))
      go_wp2_with (go_at_call 78; (with_reducible refine Calls.mono (hR.out _ (hT.out.below (b78 _ _ _ _)) (hp.out.below (b78 _ _ _ _))) ?_); rintro e w3 ⟨rfl, hb3⟩; have k0 := cbelow hb3 (c78 w _ _ _ 0 (.int .i64 k) rfl); have k2 := cbelow hb3 (c78 w _ _ _ 2 (.int .i64 n) rfl); have k3 := cbelow hb3 (d78 w _ _ _ 0 _ rfl))
      all_goals first | (exfalso; omega) | (go_returns; exact ⟨rfl, below_on (b78 _ _ _ _) hb3⟩)
end Go.Proofs.YtkcnpbckmdgfnaaGreatDoor
