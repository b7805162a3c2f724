/-
  Hda: turned for the seat of the expressions.
-/
import Derived.Test.YtkcnpbckmdgfnaaDoorPrx
namespace Go.Proofs.YtkcnpbckmdgfnaaDoor
open Go.RowKit
set_option linter.unusedSimpArgs false
set_option linter.unusedVariables false
end Go.Proofs.YtkcnpbckmdgfnaaDoor
namespace Go.Proofs.YtkcnpbckmdgfnaaDoor
open Go.ChangeShapes Go.WideShapes Go.ChangeAt Go.RowKit
set_option linter.unusedSimpArgs false
set_option linter.unusedVariables false
theorem row_nine {w : World} {g o : Nat} {x : Ex} {ks : Value} (h : Row9 w g o x ks) : ∃ op nm pr k b n t kk, x.tr = .mk op nm pr k b n t [] kk ∧ Nine w g o op nm pr k b n t ks (.slice none 0 0) := by
  cases x with
  | leaf op nm pr k b n t => exact ⟨op, nm, pr, k, b, n, t, [], rfl, h⟩
  | one op x => exact ⟨op, [], [], 0, false, 0, [], [x.tr], rfl, h⟩
  | two op x y => exact ⟨op, [], [], 0, false, 0, [], [x.tr, y.tr], rfl, h⟩
theorem ph_nil (w : World) : PhAt w [] (.slice none 0 0) := ⟨none, 0, rfl, .inl rfl⟩
theorem ex_TAt {w : World} {S : Nat → Prop} : ∀ (x : Ex) (ks : Value), ExAt w S x ks → TAt w x.tr ks
  | .leaf op nm pr k b n t, ks, h => by
    unfold Ex.tr
    rw [TAt]
    exact ⟨none, 0, h, .inl rfl⟩
  | .one op x, ks, ⟨g, k1, e, _, hr, h⟩ => by
    have h1 := ex_TAt x k1 h
    unfold Ex.tr
    rw [TAt]
    refine ⟨_, 1, e, .inr ⟨g, 0, rfl, ?_⟩⟩
    rw [LAt]
    obtain ⟨op2, nm2, pr2, kk2, b2, n2, t2, kk, e2, hn⟩ := row_nine hr
    refine ⟨⟨k1, .slice none 0 0, ?_, h1⟩, by rw [LAt]; trivial⟩
    rw [e2]
    exact ⟨hn, ph_nil w⟩
  | .two op x y, ks, ⟨g, k1, k2, e, _, hr, hr2, h, h2⟩ => by
    have h1 := ex_TAt x k1 h
    have h3 := ex_TAt y k2 h2
    unfold Ex.tr
    rw [TAt]
    refine ⟨_, 2, e, .inr ⟨g, 0, rfl, ?_⟩⟩
    rw [LAt, LAt, LAt]
    obtain ⟨op2, nm2, pr2, kk2, b2, n2, t2, kk, e2, hn⟩ := row_nine hr
    obtain ⟨op3, nm3, pr3, kk3, b3, n3, t3, kk', e3, hn3⟩ := row_nine hr2
    refine ⟨⟨k1, .slice none 0 0, ?_, h1⟩, ⟨k2, .slice none 0 0, ?_, h3⟩, trivial⟩
    · rw [e2]
      exact ⟨hn, ph_nil w⟩
    · rw [e3]
      exact ⟨hn3, ph_nil w⟩
/-- Its value. -/
def exV (x : Ex) (ks : Value) : Value := .agg #[.int .i64 (opE x), ks, .string (txt (nmE x)), .string (txt (prE x)), .int .i64 (kE x), .bool (bE x), .int .i64 (nE x), .string (txt (tE x)), .slice none 0 0]
theorem ex_val (x : Ex) (ks : Value) : x.tr.val ks (.slice none 0 0) = exV x ks := by
  cases x <;> rfl
theorem ex_ph (x : Ex) : x.tr.ph = [] := by
  cases x <;> rfl
theorem print_ex (x : Ex) (ks : Value) (w : World) {S : Nat → Prop} (hTb : Tabs w) (hFm : FormsAt w) (hfine : fineT x.tr) (hx : ExAt w S x ks) :
    Calls Tryd.prog 5 #[exV x ks] w fun e w' => e = .returned (.tuple #[.string (txt (prT x.tr).1), .int .i64 (prT x.tr).2]) ∧ Below w.heap.size w w' := by
  rw [← ex_val]
  exact print_any x.tr ks _ w hTb hFm hfine (ex_TAt x ks hx) (by rw [ex_ph]; exact ph_nil w)
def aV : Ex := .leaf 2 [97] [] 0 false 0 []
theorem head_text : prT (Ex.one 17 aV).tr = ([78, 79, 84, 32, 97], 0) := by kernel_rfl
theorem head_row (w : World) : Row9 (w.alloc (.cells #[.int .i64 2, .slice none 0 0, .string ⟨#[97]⟩, .string ⟨#[]⟩, .int .i64 0, .bool false, .int .i64 0, .string ⟨#[]⟩, .slice none 0 0] 29)) w.heap.size 0 aV (.slice none 0 0) :=
  ⟨alloc_cell w rfl, alloc_cell w rfl, alloc_cell w rfl, alloc_cell w rfl, alloc_cell w rfl, alloc_cell w rfl, alloc_cell w rfl, alloc_cell w rfl, alloc_cell w rfl⟩
set_option maxRecDepth 100000 in
theorem head_any (w : World) (hT : Tabs w) (hF : FormsAt w) : Calls Tryd.prog 4 #[] w fun e w' => e = .returned (.bool true) ∧ Below w.heap.size w w' := by
  have hb := below_new w (.cells #[.int .i64 2, .slice none 0 0, .string ⟨#[97]⟩, .string ⟨#[]⟩, .int .i64 0, .bool false, .int .i64 0, .string ⟨#[]⟩, .slice none 0 0] 29)
  have hP := fun (_ : Unit) => print_ex (.one 17 aV) (.slice (some ⟨w.heap.size, 0, none⟩) 1 1) (w.alloc (.cells #[.int .i64 2, .slice none 0 0, .string ⟨#[97]⟩, .string ⟨#[]⟩, .int .i64 0, .bool false, .int .i64 0, .string ⟨#[]⟩, .slice none 0 0] 29)) (S := fun _ => True) (hT.below hb) (hF.below hb) (by simp [Ex.tr, aV, fineT, fineL, maxLen]) ⟨w.heap.size, _, rfl, trivial, head_row w, rfl⟩
  rw [head_text] at hP
  unfold exV at hP
  simp only [opE, nmE, prE, kE, bE, nE, tE, txt_nil] at hP
  have et : txt [78, 79, 84, 32, 97] = ⟨#[78, 79, 84, 32, 97]⟩ := rfl
  rw [et] at hP
  replace hP : Hid _ := hP
  replace hb : Hid _ := hb
  go_enter Tryd.func4, Tryd.ntmps4
  go_wp2_with (have hh := hP.out (); go_at_call 5; (refine Calls.mono hh ?_); clear hh; rintro e w1 ⟨rfl, hb1⟩)
  go_returns
  exact ⟨rfl, below_on hb.out hb1⟩
end Go.Proofs.YtkcnpbckmdgfnaaDoor
