/-
  Three parts and two Ops: their texts, and what these are read as (pure, by the kernel).
  Trees as the reader lays them; the live question.
-/
import Derived.Test.YtkcnpbckmdgfnaaGreatDoorPrx
namespace Go.Proofs.YtkcnpbckmdgfnaaGreatDoor
open Go.RowKit
set_option linter.unusedSimpArgs false
set_option linter.unusedVariables false

def exB : Ex → Ex → Bool
  | .leaf o nm pr k b n t, .leaf o' nm' pr' k' b' n' t' => decide (o = o') && decide (nm = nm') && decide (pr = pr') && decide (k = k') && (b == b') && decide (n = n') && decide (t = t')
  | .one o x, .one o' x' => decide (o = o') && exB x x'
  | .two o x y, .two o' x' y' => decide (o = o') && exB x x' && exB y y'
  | _, _ => false
theorem exB_eq : ∀ x y : Ex, exB x y = true → x = y
  | .leaf .., .leaf .., h => by
    simp only [exB, Bool.and_eq_true, decide_eq_true_eq, beq_iff_eq] at h
    obtain ⟨⟨⟨⟨⟨⟨rfl, rfl⟩, rfl⟩, rfl⟩, rfl⟩, rfl⟩, rfl⟩ := h
    rfl
  | .one o x, .one o' x', h => by
    simp only [exB, Bool.and_eq_true, decide_eq_true_eq] at h
    obtain ⟨rfl, h⟩ := h
    rw [exB_eq x x' h]
  | .two o x y, .two o' x' y', h => by
    simp only [exB, Bool.and_eq_true, decide_eq_true_eq] at h
    obtain ⟨⟨rfl, h⟩, h2⟩ := h
    rw [exB_eq x x' h, exB_eq y y' h2]
  | .leaf .., .one .., h => by simp [exB] at h
  | .leaf .., .two .., h => by simp [exB] at h
  | .one .., .leaf .., h => by simp [exB] at h
  | .one .., .two .., h => by simp [exB] at h
  | .two .., .leaf .., h => by simp [exB] at h
  | .two .., .one .., h => by simp [exB] at h
def xV : Ex := .leaf 2 [120] [] 0 false 0 []
def pairE (p q : Int) (r : Bool) : Ex := if r then .two p xV (.two q xV xV) else .two p (.two q xV xV) xV
def lvO (p : Int) : Int := (fmOf p).lvl
def asksP (p : Int) (r : Bool) : Int := if lvO p = 4 then 5 else lvO p + (if r then 1 else 0)
def pairT (i j : Nat) (r : Bool) : List UInt8 := txT 1 (pairE (4 + i) (4 + j) r).tr
def readsB (t : List UInt8) (x : Ex) : Bool := match parseEL t with
  | .ok y [] => exB y x
  | _ => false
theorem reads_eq {t : List UInt8} {x : Ex} (h : readsB t x = true) : parseEL t = .ok x [] := by
  unfold readsB at h
  split at h
  · rename_i y e
    rw [e, exB_eq y x h]
  · cases h
def pairB (i j : Nat) (r : Bool) : Bool :=
  okT 1 0 (pairE (4 + i) (4 + j) r).tr && decide ((pairT i j r).length ≤ 100) && readsB (pairT i j r) (pairE (4 + i) (4 + j) r) && ((pairT i j r).any (fun c => decide (c = 40)) == decide (lvO (4 + j) < asksP (4 + i) r))
theorem pair0 : ((List.range 13).all fun j => pairB 0 j false && pairB 0 j true) = true := by kernel_rfl
theorem pair1 : ((List.range 13).all fun j => pairB 1 j false && pairB 1 j true) = true := by kernel_rfl
theorem pair2 : ((List.range 13).all fun j => pairB 2 j false && pairB 2 j true) = true := by kernel_rfl
theorem pair3 : ((List.range 13).all fun j => pairB 3 j false && pairB 3 j true) = true := by kernel_rfl
theorem pair4 : ((List.range 13).all fun j => pairB 4 j false && pairB 4 j true) = true := by kernel_rfl
theorem pair5 : ((List.range 13).all fun j => pairB 5 j false && pairB 5 j true) = true := by kernel_rfl
theorem pair6 : ((List.range 13).all fun j => pairB 6 j false && pairB 6 j true) = true := by kernel_rfl
theorem pair7 : ((List.range 13).all fun j => pairB 7 j false && pairB 7 j true) = true := by kernel_rfl
theorem pair8 : ((List.range 13).all fun j => pairB 8 j false && pairB 8 j true) = true := by kernel_rfl
theorem pair9 : ((List.range 13).all fun j => pairB 9 j false && pairB 9 j true) = true := by kernel_rfl
theorem pair10 : ((List.range 13).all fun j => pairB 10 j false && pairB 10 j true) = true := by kernel_rfl
theorem pair11 : ((List.range 13).all fun j => pairB 11 j false && pairB 11 j true) = true := by kernel_rfl
theorem pair12 : ((List.range 13).all fun j => pairB 12 j false && pairB 12 j true) = true := by kernel_rfl
theorem pairs_all : ∀ i j r, i < 13 → j < 13 → pairB i j r = true := by
  intro i j r hi hj
  have key : ((List.range 13).all fun j => pairB i j false && pairB i j true) = true :=
    match i, hi with
    | 0, _ => pair0
    | 1, _ => pair1
    | 2, _ => pair2
    | 3, _ => pair3
    | 4, _ => pair4
    | 5, _ => pair5
    | 6, _ => pair6
    | 7, _ => pair7
    | 8, _ => pair8
    | 9, _ => pair9
    | 10, _ => pair10
    | 11, _ => pair11
    | 12, _ => pair12
    | n + 13, h => absurd h (by omega)
  have h := List.all_eq_true.1 key j (List.mem_range.2 hj)
  rw [Bool.and_eq_true] at h
  cases r
  · exact h.1
  · exact h.2
end Go.Proofs.YtkcnpbckmdgfnaaGreatDoor
namespace Go.Proofs.YtkcnpbckmdgfnaaGreatDoor
open Go.ChangeShapes Go.WideShapes Go.ChangeAt Go.RowKit
set_option linter.unusedSimpArgs false
set_option linter.unusedVariables false

theorem row_nine {w : World} {g o : Nat} {x : Ex} {ks : Value} (h : Row9 w g o x ks) : ∃ op nm pr k b n t kk, x.tr = .mk op nm pr k b n t [] kk ∧ Nine w g o op nm pr k b n t ks (.slice none 0 0) := by
  cases x with
  | leaf op nm pr k b n t => exact ⟨op, nm, pr, k, b, n, t, [], rfl, h⟩
  | one op x => exact ⟨op, [], [], 0, false, 0, [], [x.tr], rfl, h⟩
  | two op x y => exact ⟨op, [], [], 0, false, 0, [], [x.tr, y.tr], rfl, h⟩
theorem ph_nil (w : World) : PhAt w [] (.slice none 0 0) := ⟨none, 0, rfl, .inl rfl⟩
theorem ex_TAt {w : World} {S : Nat → Prop} : ∀ (x : Ex) (ks : Value), ExAt w S x ks → TAt w x.tr ks
  | .leaf op nm pr k b n t, ks, h => by
    unfold Ex.tr
    rw [TAt]
    exact ⟨none, 0, h, .inl rfl⟩
  | .one op x, ks, ⟨g, k1, e, _, hr, h⟩ => by
    have h1 := ex_TAt x k1 h
    unfold Ex.tr
    rw [TAt]
    refine ⟨_, 1, e, .inr ⟨g, 0, rfl, ?_⟩⟩
    rw [LAt]
    obtain ⟨op2, nm2, pr2, kk2, b2, n2, t2, kk, e2, hn⟩ := row_nine hr
    refine ⟨⟨k1, .slice none 0 0, ?_, h1⟩, by rw [LAt]; trivial⟩
    rw [e2]
    exact ⟨hn, ph_nil w⟩
  | .two op x y, ks, ⟨g, k1, k2, e, _, hr, hr2, h, h2⟩ => by
    have h1 := ex_TAt x k1 h
    have h3 := ex_TAt y k2 h2
    unfold Ex.tr
    rw [TAt]
    refine ⟨_, 2, e, .inr ⟨g, 0, rfl, ?_⟩⟩
    rw [LAt, LAt, LAt]
    obtain ⟨op2, nm2, pr2, kk2, b2, n2, t2, kk, e2, hn⟩ := row_nine hr
    obtain ⟨op3, nm3, pr3, kk3, b3, n3, t3, kk', e3, hn3⟩ := row_nine hr2
    refine ⟨⟨k1, .slice none 0 0, ?_, h1⟩, ⟨k2, .slice none 0 0, ?_, h3⟩, trivial⟩
    · rw [e2]
      exact ⟨hn, ph_nil w⟩
    · rw [e3]
      exact ⟨hn3, ph_nil w⟩
/-- Its value. -/
def exV (x : Ex) (ks : Value) : Value := .agg #[.int .i64 (opE x), ks, .string (txt (nmE x)), .string (txt (prE x)), .int .i64 (kE x), .bool (bE x), .int .i64 (nE x), .string (txt (tE x)), .slice none 0 0]
theorem ex_val (x : Ex) (ks : Value) : x.tr.val ks (.slice none 0 0) = exV x ks := by
  cases x <;> rfl
theorem ex_ph (x : Ex) : x.tr.ph = [] := by
  cases x <;> rfl
theorem print_ex (x : Ex) (ks : Value) (w : World) {S : Nat → Prop} (hTb : Tabs w) (hFm : FormsAt w) (hfine : fineT x.tr) (hx : ExAt w S x ks) :
    Calls Tryz.prog 13 #[exV x ks] w fun e w' => e = .returned (.tuple #[.string (txt (prT x.tr).1), .int .i64 (prT x.tr).2]) ∧ Below w.heap.size w w' := by
  rw [← ex_val]
  exact print_any x.tr ks _ w hTb hFm hfine (ex_TAt x ks hx) (by rw [ex_ph]; exact ph_nil w)
def aV : Ex := .leaf 2 [97] [] 0 false 0 []
theorem head_text : prT (Ex.one 17 aV).tr = ([78, 79, 84, 32, 97], 0) := by kernel_rfl
theorem head_row (w : World) : Row9 (w.alloc (.cells #[.int .i64 2, .slice none 0 0, .string ⟨#[97]⟩, .string ⟨#[]⟩, .int .i64 0, .bool false, .int .i64 0, .string ⟨#[]⟩, .slice none 0 0] 39)) w.heap.size 0 aV (.slice none 0 0) :=
  ⟨alloc_cell w rfl, alloc_cell w rfl, alloc_cell w rfl, alloc_cell w rfl, alloc_cell w rfl, alloc_cell w rfl, alloc_cell w rfl, alloc_cell w rfl, alloc_cell w rfl⟩
set_option maxRecDepth 100000 in
theorem head_any (w : World) (hT : Tabs w) (hF : FormsAt w) : Calls Tryz.prog 8 #[] w fun e w' => e = .returned (.bool true) ∧ Below w.heap.size w w' := by
  have hb := below_new w (.cells #[.int .i64 2, .slice none 0 0, .string ⟨#[97]⟩, .string ⟨#[]⟩, .int .i64 0, .bool false, .int .i64 0, .string ⟨#[]⟩, .slice none 0 0] 39)
  have hP := fun (_ : Unit) => print_ex (.one 17 aV) (.slice (some ⟨w.heap.size, 0, none⟩) 1 1) (w.alloc (.cells #[.int .i64 2, .slice none 0 0, .string ⟨#[97]⟩, .string ⟨#[]⟩, .int .i64 0, .bool false, .int .i64 0, .string ⟨#[]⟩, .slice none 0 0] 39)) (S := fun _ => True) (hT.below hb) (hF.below hb) (by simp [Ex.tr, aV, fineT, fineL, maxLen]) ⟨w.heap.size, _, rfl, trivial, head_row w, rfl⟩
  rw [head_text] at hP
  unfold exV at hP
  simp only [opE, nmE, prE, kE, bE, nE, tE, txt_nil] at hP
  have et : txt [78, 79, 84, 32, 97] = ⟨#[78, 79, 84, 32, 97]⟩ := rfl
  rw [et] at hP
  replace hP : Hid _ := hP
  replace hb : Hid _ := hb
  go_enter Tryz.func8, Tryz.ntmps8
  go_wp2_with (have hh := hP.out (); go_at_call 13; (refine Calls.mono hh ?_); clear hh; rintro e w1 ⟨rfl, hb1⟩)
  go_returns
  exact ⟨rfl, below_on hb.out hb1⟩
theorem lvl17_any (j : Nat) (hj : j < 13) (w : World) : Calls Tryz.prog 17 #[.int .i64 (4 + (j : Int))] w fun e w' => e = .returned (.int .i64 (lvO (4 + (j : Int)))) ∧ w = w' := by
  match j, hj with
  | 0, _ =>
    show Calls Tryz.prog 17 #[.int .i64 4] w fun e w' => e = .returned (.int .i64 (lvO 4)) ∧ w = w'
    rw [show lvO 4 = 1 from rfl]
    go_enter Tryz.func17, Tryz.ntmps17
    go_wp2_with fail
    go_returns
    exact ⟨rfl, rfl⟩
  | 1, _ =>
    show Calls Tryz.prog 17 #[.int .i64 5] w fun e w' => e = .returned (.int .i64 (lvO 5)) ∧ w = w'
    rw [show lvO 5 = 2 from rfl]
    go_enter Tryz.func17, Tryz.ntmps17
    go_wp2_with fail
    go_returns
    exact ⟨rfl, rfl⟩
  | 2, _ =>
    show Calls Tryz.prog 17 #[.int .i64 6] w fun e w' => e = .returned (.int .i64 (lvO 6)) ∧ w = w'
    rw [show lvO 6 = 4 from rfl]
    go_enter Tryz.func17, Tryz.ntmps17
    go_wp2_with fail
    go_returns
    exact ⟨rfl, rfl⟩
  | 3, _ =>
    show Calls Tryz.prog 17 #[.int .i64 7] w fun e w' => e = .returned (.int .i64 (lvO 7)) ∧ w = w'
    rw [show lvO 7 = 4 from rfl]
    go_enter Tryz.func17, Tryz.ntmps17
    go_wp2_with fail
    go_returns
    exact ⟨rfl, rfl⟩
  | 4, _ =>
    show Calls Tryz.prog 17 #[.int .i64 8] w fun e w' => e = .returned (.int .i64 (lvO 8)) ∧ w = w'
    rw [show lvO 8 = 4 from rfl]
    go_enter Tryz.func17, Tryz.ntmps17
    go_wp2_with fail
    go_returns
    exact ⟨rfl, rfl⟩
  | 5, _ =>
    show Calls Tryz.prog 17 #[.int .i64 9] w fun e w' => e = .returned (.int .i64 (lvO 9)) ∧ w = w'
    rw [show lvO 9 = 4 from rfl]
    go_enter Tryz.func17, Tryz.ntmps17
    go_wp2_with fail
    go_returns
    exact ⟨rfl, rfl⟩
  | 6, _ =>
    show Calls Tryz.prog 17 #[.int .i64 10] w fun e w' => e = .returned (.int .i64 (lvO 10)) ∧ w = w'
    rw [show lvO 10 = 4 from rfl]
    go_enter Tryz.func17, Tryz.ntmps17
    go_wp2_with fail
    go_returns
    exact ⟨rfl, rfl⟩
  | 7, _ =>
    show Calls Tryz.prog 17 #[.int .i64 11] w fun e w' => e = .returned (.int .i64 (lvO 11)) ∧ w = w'
    rw [show lvO 11 = 4 from rfl]
    go_enter Tryz.func17, Tryz.ntmps17
    go_wp2_with fail
    go_returns
    exact ⟨rfl, rfl⟩
  | 8, _ =>
    show Calls Tryz.prog 17 #[.int .i64 12] w fun e w' => e = .returned (.int .i64 (lvO 12)) ∧ w = w'
    rw [show lvO 12 = 5 from rfl]
    go_enter Tryz.func17, Tryz.ntmps17
    go_wp2_with fail
    go_returns
    exact ⟨rfl, rfl⟩
  | 9, _ =>
    show Calls Tryz.prog 17 #[.int .i64 13] w fun e w' => e = .returned (.int .i64 (lvO 13)) ∧ w = w'
    rw [show lvO 13 = 5 from rfl]
    go_enter Tryz.func17, Tryz.ntmps17
    go_wp2_with fail
    go_returns
    exact ⟨rfl, rfl⟩
  | 10, _ =>
    show Calls Tryz.prog 17 #[.int .i64 14] w fun e w' => e = .returned (.int .i64 (lvO 14)) ∧ w = w'
    rw [show lvO 14 = 6 from rfl]
    go_enter Tryz.func17, Tryz.ntmps17
    go_wp2_with fail
    go_returns
    exact ⟨rfl, rfl⟩
  | 11, _ =>
    show Calls Tryz.prog 17 #[.int .i64 15] w fun e w' => e = .returned (.int .i64 (lvO 15)) ∧ w = w'
    rw [show lvO 15 = 6 from rfl]
    go_enter Tryz.func17, Tryz.ntmps17
    go_wp2_with fail
    go_returns
    exact ⟨rfl, rfl⟩
  | 12, _ =>
    show Calls Tryz.prog 17 #[.int .i64 16] w fun e w' => e = .returned (.int .i64 (lvO 16)) ∧ w = w'
    rw [show lvO 16 = 6 from rfl]
    go_enter Tryz.func17, Tryz.ntmps17
    go_wp2_with fail
    go_returns
    exact ⟨rfl, rfl⟩
  | n + 13, h => exact absurd h (by omega)
end Go.Proofs.YtkcnpbckmdgfnaaGreatDoor
