/-
  How any thing is written: Show, the program's and the document's.
-/
import Derived.Test.YtokkmjcpjjiaaaaDoorShp
import Derived.Test.YtokkmjcpjjiaaaaDoorTru
namespace Go.Proofs.YtokkmjcpjjiaaaaDoor
open Go.ChangeShapes Go.WideShapes Go.ChangeAt Go.RowKit
open S9 (txt quoL showText_any Quoted_any)
set_option linter.unusedSimpArgs false
set_option linter.unusedVariables false

/-- How a thing is written; 'r': is it a value? -/
def shwT (k : Int) (b : Bool) (n : Int) (s : ByteArray) (z : List Int) (r : Bool) : List UInt8 :=
  if r = false then [102, 97, 117, 108, 116] else if k = 1 then (if b then [116, 114, 117, 101] else [102, 97, 108, 115, 101]) else if k = 2 then Lib.itoa n else if k = 3 then quoL s.data.toList else if k = 4 then wN n else if k = 5 then wE n else if k = 6 then pathT z else [110, 117, 108, 108]
theorem rgt_parts {k : Int} {b : Bool} {n : Int} {s : ByteArray} {l : Nat} {z : List Int} {V : Bool} (h : rgtB k b n s l z V = true) :
    k = 0 ∨ k = 1 ∨ k = 2 ∨ (k = 3 ∧ s.size ≤ 4096 ∧ V = true) ∨ (k = 4 ∧ idB n = true) ∨ (k = 5 ∧ idB n = true) ∨ (k = 6 ∧ 1 ≤ z.length ∧ z.length ≤ 9 ∧ ∀ m ∈ z, idB m = true) := by
  unfold rgtB at h
  rw [Bool.and_eq_true] at h
  have hf := h.2
  unfold fitB at hf
  by_cases a : k = 0 ∨ k = 1 ∨ k = 2
  · omega
  rw [if_neg a] at hf
  by_cases k3 : k = 3
  · rw [if_pos k3, Bool.and_eq_true, decide_eq_true_eq] at hf
    exact .inr (.inr (.inr (.inl ⟨k3, hf⟩)))
  rw [if_neg k3] at hf
  by_cases k45 : k = 4 ∨ k = 5
  · rw [if_pos k45] at hf
    rcases k45 with e | e
    · exact .inr (.inr (.inr (.inr (.inl ⟨e, hf⟩))))
    · exact .inr (.inr (.inr (.inr (.inr (.inl ⟨e, hf⟩)))))
  rw [if_neg k45] at hf
  by_cases k6 : k = 6
  · rw [if_pos k6] at hf
    unfold trailB at hf
    simp only [Bool.and_eq_true, decide_eq_true_eq, List.all_eq_true] at hf
    exact .inr (.inr (.inr (.inr (.inr (.inr ⟨k6, hf.1.1, hf.1.2, hf.2⟩)))))
  · rw [if_neg k6] at hf
    cases hf
theorem fbi_any (b : Bool) (w : World) : Calls Tryd.prog 64 #[.bool b] w fun e w' => e = .returned (.string (txt (if b then [116, 114, 117, 101] else [102, 97, 108, 115, 101]))) ∧ Below w.heap.size w w' := by
  cases b
  · go_enter Tryd.func64, Tryd.ntmps64
    go_wp2_with fail
    go_returns
    exact ⟨rfl, by go_grown⟩
  · go_enter Tryd.func64, Tryd.ntmps64
    go_wp2_with fail
    go_returns
    exact ⟨rfl, by go_grown⟩
theorem fb_any (b : Bool) (w : World) : Calls Tryd.prog 42 #[.bool b] w fun e w' => e = .returned (.string (txt (if b then [116, 114, 117, 101] else [102, 97, 108, 115, 101]))) ∧ Below w.heap.size w w' := by
  have h := fun (_ : Unit) => fbi_any b w
  generalize txt (if b then [116, 114, 117, 101] else [102, 97, 108, 115, 101]) = X at *
  replace h : Hid _ := h
  go_enter Tryd.func42, Tryd.ntmps42
  go_wp2_with (go_at_call 64; refine Calls.mono (h.out ()) ?_; rintro e w1 ⟨rfl, hb1⟩)
  go_returns
  exact ⟨rfl, hb1⟩
set_option maxRecDepth 100000 in
set_option maxHeartbeats 2000000 in
theorem Show_any (k : Int) (b : Bool) (n : Int) (s : ByteArray) (p : Option Addr) (l c : Nat) (z : List Int) (w : World) (h1 : z.length = l) (q : PathAt w p z) (hlc : l ≤ c) (hs : s.size ≤ maxLen) (hn : -9223372036854775808 ≤ n ∧ n ≤ 9223372036854775807) (hT : Tabs w) (hP : P10 w) :
    Calls Tryd.prog 14 #[.agg #[.int .i64 k, .bool b, .int .i64 n, .string s, .slice p l c]] w fun e w' => e = .returned (.string (txt (shwT k b n s z (rgtB k b n s l z (Lib.validD s.data.toList))))) ∧ Below w.heap.size w w' := by
  have hbx := BoxAt.new w k b n s p l c rfl
  have hb0 := below_new w (.cells #[.int .i64 k, .bool b, .int .i64 n, .string s, .slice p l c] 25)
  have hR := fun (_ : Unit) => Right_any k b n s p l c z (Lib.validD s.data.toList) _ h1 (q.below hb0) (valid_any s hs _ (hT.below hb0))
  cases hrg : rgtB k b n s l z (Lib.validD s.data.toList)
  · rw [hrg] at hR
    have e : shwT k b n s z false = [102, 97, 117, 108, 116] := rfl
    rw [e]
    replace hR : Hid _ := hR
    replace hbx : Hid _ := hbx
    replace hb0 : Hid _ := hb0
    clear hrg h1 q hT hP
    go_enter Tryd.func14, Tryd.ntmps14
    go_wp2_with (go_at_call 12; refine Calls.mono (hR.out ()) ?_; rintro e w1 ⟨rfl, hb1⟩; have B1 := hbx.out.below hb1; obtain ⟨d0, d1, d2, d3, d4, d5⟩ := B1; replace hb1 : Hid _ := hb1)
    go_returns
    exact ⟨rfl, below_on hb0.out hb1.out⟩
  · rw [hrg] at hR
    have hpt := rgt_parts hrg
    clear hrg
    rcases hpt with rfl | rfl | rfl | ⟨rfl, hs4, hv⟩ | ⟨rfl, hid⟩ | ⟨rfl, hid⟩ | ⟨rfl, hz1, hz9, hid⟩
    · have e : shwT 0 b n s z true = [110, 117, 108, 108] := by simp [shwT]
      rw [e]
      replace hR : Hid _ := hR
      replace hbx : Hid _ := hbx
      replace hb0 : Hid _ := hb0
      go_enter Tryd.func14, Tryd.ntmps14
      go_wp2_with (go_at_call 12; refine Calls.mono (hR.out ()) ?_; rintro e w1 ⟨rfl, hb1⟩; have B1 := hbx.out.below hb1; obtain ⟨d0, d1, d2, d3, d4, d5⟩ := B1; replace hb1 : Hid _ := hb1)
      go_returns
      exact ⟨rfl, below_on hb0.out hb1.out⟩
    · have e : shwT 1 b n s z true = if b then [116, 114, 117, 101] else [102, 97, 108, 115, 101] := by simp [shwT]
      rw [e]
      have hC := fun (W : World) (hb : Below w.heap.size w W) => fb_any b W
      replace hC : Hid _ := hC
      generalize txt (if b then [116, 114, 117, 101] else [102, 97, 108, 115, 101]) = X at *
      replace hR : Hid _ := hR
      replace hbx : Hid _ := hbx
      replace hb0 : Hid _ := hb0
      go_enter Tryd.func14, Tryd.ntmps14
      go_wp2_with (first | (go_at_call 42; refine Calls.mono (hC.out _ (below_on hb0.out hb1.out)) ?_; rintro e w2 ⟨rfl, hb2⟩) | (go_at_call 12; refine Calls.mono (hR.out ()) ?_; rintro e w1 ⟨rfl, hb1⟩; have B1 := hbx.out.below hb1; obtain ⟨d0, d1, d2, d3, d4, d5⟩ := B1; replace hb1 : Hid _ := hb1))
      go_returns
      exact ⟨rfl, below_on (below_on hb0.out hb1.out) hb2⟩
    · have e : shwT 2 b n s z true = Lib.itoa n := by simp [shwT]
      rw [e]
      have hC := fun (W : World) (hb : Below w.heap.size w W) => fmt_any n hn W (hP.below hb)
      replace hC : Hid _ := hC
      generalize txt (Lib.itoa n) = X at *
      replace hR : Hid _ := hR
      replace hbx : Hid _ := hbx
      replace hb0 : Hid _ := hb0
      go_enter Tryd.func14, Tryd.ntmps14
      go_wp2_with (first | (go_at_call 43; refine Calls.mono (hC.out _ (below_on hb0.out hb1.out)) ?_; rintro e w2 ⟨rfl, hb2⟩) | (go_at_call 12; refine Calls.mono (hR.out ()) ?_; rintro e w1 ⟨rfl, hb1⟩; have B1 := hbx.out.below hb1; obtain ⟨d0, d1, d2, d3, d4, d5⟩ := B1; replace hb1 : Hid _ := hb1))
      go_returns
      exact ⟨rfl, below_on (below_on hb0.out hb1.out) hb2⟩
    · have e : shwT 3 b n s z true = quoL s.data.toList := by simp [shwT]
      rw [e]
      have hC := fun (W : World) (hb : Below w.heap.size w W) => showText_any s (by omega) hv W
      replace hC : Hid _ := hC
      generalize txt (quoL s.data.toList) = X at *
      replace hR : Hid _ := hR
      replace hbx : Hid _ := hbx
      replace hb0 : Hid _ := hb0
      go_enter Tryd.func14, Tryd.ntmps14
      go_wp2_with (first | (go_at_call 44; refine Calls.mono (hC.out _ (below_on hb0.out hb1.out)) ?_; rintro e w2 ⟨rfl, hb2⟩) | (go_at_call 12; refine Calls.mono (hR.out ()) ?_; rintro e w1 ⟨rfl, hb1⟩; have B1 := hbx.out.below hb1; obtain ⟨d0, d1, d2, d3, d4, d5⟩ := B1; replace hb1 : Hid _ := hb1))
      go_returns
      exact ⟨rfl, below_on (below_on hb0.out hb1.out) hb2⟩
    · have e : shwT 4 b n s z true = wN n := by simp [shwT]
      rw [e]
      have hC := fun (W : World) (hb : Below w.heap.size w W) => node_any n hn W (hP.below hb)
      replace hC : Hid _ := hC
      generalize txt (wN n) = X at *
      replace hR : Hid _ := hR
      replace hbx : Hid _ := hbx
      replace hb0 : Hid _ := hb0
      go_enter Tryd.func14, Tryd.ntmps14
      go_wp2_with (first | (go_at_call 45; refine Calls.mono (hC.out _ (below_on hb0.out hb1.out)) ?_; rintro e w2 ⟨rfl, hb2⟩) | (go_at_call 12; refine Calls.mono (hR.out ()) ?_; rintro e w1 ⟨rfl, hb1⟩; have B1 := hbx.out.below hb1; obtain ⟨d0, d1, d2, d3, d4, d5⟩ := B1; replace hb1 : Hid _ := hb1))
      go_returns
      exact ⟨rfl, below_on (below_on hb0.out hb1.out) hb2⟩
    · have e : shwT 5 b n s z true = wE n := by simp [shwT]
      rw [e]
      have hC := fun (W : World) (hb : Below w.heap.size w W) => edge_any n hn W (hP.below hb)
      replace hC : Hid _ := hC
      generalize txt (wE n) = X at *
      replace hR : Hid _ := hR
      replace hbx : Hid _ := hbx
      replace hb0 : Hid _ := hb0
      go_enter Tryd.func14, Tryd.ntmps14
      go_wp2_with (first | (go_at_call 46; refine Calls.mono (hC.out _ (below_on hb0.out hb1.out)) ?_; rintro e w2 ⟨rfl, hb2⟩) | (go_at_call 12; refine Calls.mono (hR.out ()) ?_; rintro e w1 ⟨rfl, hb1⟩; have B1 := hbx.out.below hb1; obtain ⟨d0, d1, d2, d3, d4, d5⟩ := B1; replace hb1 : Hid _ := hb1))
      go_returns
      exact ⟨rfl, below_on (below_on hb0.out hb1.out) hb2⟩
    · obtain ⟨m, r, rfl⟩ : ∃ m r, z = m :: r := by
        cases z with
        | nil => simp at hz1
        | cons m r => exact ⟨m, r, rfl⟩
      obtain rfl : r.length + 1 = l := h1
      obtain ⟨c', rfl⟩ : ∃ c', c = c' + 1 := ⟨c - 1, by omega⟩
      have e : shwT 6 b n s (m :: r) true = pathT (m :: r) := by simp [shwT]
      rw [e]
      have hC := fun (W : World) (hb : Below w.heap.size w W) => showPath_any m r p c' W (by simp at hz9; omega) (by omega) (q.below hb) hid (hP.below hb)
      replace hC : Hid _ := hC
      generalize txt (pathT (m :: r)) = X at *
      replace hR : Hid _ := hR
      replace hbx : Hid _ := hbx
      replace hb0 : Hid _ := hb0
      go_enter Tryd.func14, Tryd.ntmps14
      go_wp2_with (first | (go_at_call 47; refine Calls.mono (hC.out _ (below_on hb0.out hb1.out)) ?_; rintro e w2 ⟨rfl, hb2⟩) | (go_at_call 12; refine Calls.mono (hR.out ()) ?_; rintro e w1 ⟨rfl, hb1⟩; have B1 := hbx.out.below hb1; obtain ⟨d0, d1, d2, d3, d4, d5⟩ := B1; replace hb1 : Hid _ := hb1))
      go_returns
      exact ⟨rfl, below_on (below_on hb0.out hb1.out) hb2⟩
set_option maxRecDepth 100000 in
set_option maxHeartbeats 2000000 in
theorem refShow_any (k : Int) (b : Bool) (n : Int) (s : ByteArray) (p : Option Addr) (l c : Nat) (z : List Int) (w : World) (h1 : z.length = l) (q : PathAt w p z) (hlc : l ≤ c) (hs : s.size ≤ maxLen) (hn : -9223372036854775808 ≤ n ∧ n ≤ 9223372036854775807) (hT : Tabs w) (hP : P10 w) :
    Calls Tryd.prog 15 #[.agg #[.int .i64 k, .bool b, .int .i64 n, .string s, .slice p l c]] w fun e w' => e = .returned (.string (txt (shwT k b n s z (rgtB k b n s l z (Lib.validD s.data.toList))))) ∧ Below w.heap.size w w' := by
  have hbx := BoxAt.new w k b n s p l c rfl
  have hb0 := below_new w (.cells #[.int .i64 k, .bool b, .int .i64 n, .string s, .slice p l c] 25)
  have hR := fun (_ : Unit) => refRight_any k b n s p l c z (Lib.validD s.data.toList) _ h1 (q.below hb0) (valid_any s hs _ (hT.below hb0))
  cases hrg : rgtB k b n s l z (Lib.validD s.data.toList)
  · rw [hrg] at hR
    have e : shwT k b n s z false = [102, 97, 117, 108, 116] := rfl
    rw [e]
    replace hR : Hid _ := hR
    replace hbx : Hid _ := hbx
    replace hb0 : Hid _ := hb0
    clear hrg h1 q hT hP
    go_enter Tryd.func15, Tryd.ntmps15
    go_wp2_with (go_at_call 13; refine Calls.mono (hR.out ()) ?_; rintro e w1 ⟨rfl, hb1⟩; have B1 := hbx.out.below hb1; obtain ⟨d0, d1, d2, d3, d4, d5⟩ := B1; replace hb1 : Hid _ := hb1)
    go_returns
    exact ⟨rfl, below_on hb0.out hb1.out⟩
  · rw [hrg] at hR
    have hpt := rgt_parts hrg
    clear hrg
    rcases hpt with rfl | rfl | rfl | ⟨rfl, hs4, hv⟩ | ⟨rfl, hid⟩ | ⟨rfl, hid⟩ | ⟨rfl, hz1, hz9, hid⟩
    · have e : shwT 0 b n s z true = [110, 117, 108, 108] := by simp [shwT]
      rw [e]
      replace hR : Hid _ := hR
      replace hbx : Hid _ := hbx
      replace hb0 : Hid _ := hb0
      go_enter Tryd.func15, Tryd.ntmps15
      go_wp2_with (go_at_call 13; refine Calls.mono (hR.out ()) ?_; rintro e w1 ⟨rfl, hb1⟩; have B1 := hbx.out.below hb1; obtain ⟨d0, d1, d2, d3, d4, d5⟩ := B1; replace hb1 : Hid _ := hb1)
      go_returns
      exact ⟨rfl, below_on hb0.out hb1.out⟩
    · have e : shwT 1 b n s z true = if b then [116, 114, 117, 101] else [102, 97, 108, 115, 101] := by simp [shwT]
      rw [e]
      replace hR : Hid _ := hR
      replace hbx : Hid _ := hbx
      replace hb0 : Hid _ := hb0
      cases b
      all_goals
        go_enter Tryd.func15, Tryd.ntmps15
        go_wp2_with (go_at_call 13; refine Calls.mono (hR.out ()) ?_; rintro e w1 ⟨rfl, hb1⟩; have B1 := hbx.out.below hb1; obtain ⟨d0, d1, d2, d3, d4, d5⟩ := B1; replace hb1 : Hid _ := hb1)
        go_returns
        exact ⟨rfl, below_on hb0.out hb1.out⟩
    · have e : shwT 2 b n s z true = Lib.itoa n := by simp [shwT]
      rw [e]
      have hC := fun (W : World) (hb : Below w.heap.size w W) => fmt_any n hn W (hP.below hb)
      replace hC : Hid _ := hC
      generalize txt (Lib.itoa n) = X at *
      replace hR : Hid _ := hR
      replace hbx : Hid _ := hbx
      replace hb0 : Hid _ := hb0
      go_enter Tryd.func15, Tryd.ntmps15
      go_wp2_with (first | (go_at_call 43; refine Calls.mono (hC.out _ (below_on hb0.out hb1.out)) ?_; rintro e w2 ⟨rfl, hb2⟩) | (go_at_call 13; refine Calls.mono (hR.out ()) ?_; rintro e w1 ⟨rfl, hb1⟩; have B1 := hbx.out.below hb1; obtain ⟨d0, d1, d2, d3, d4, d5⟩ := B1; replace hb1 : Hid _ := hb1))
      go_returns
      exact ⟨rfl, below_on (below_on hb0.out hb1.out) hb2⟩
    · have e : shwT 3 b n s z true = quoL s.data.toList := by simp [shwT]
      rw [e]
      have hC := fun (W : World) (hb : Below w.heap.size w W) => Quoted_any s (by omega) W
      replace hC : Hid _ := hC
      generalize txt (quoL s.data.toList) = X at *
      replace hR : Hid _ := hR
      replace hbx : Hid _ := hbx
      replace hb0 : Hid _ := hb0
      go_enter Tryd.func15, Tryd.ntmps15
      go_wp2_with (first | (go_at_call 48; refine Calls.mono (hC.out _ (below_on hb0.out hb1.out)) ?_; rintro e w2 ⟨rfl, hb2⟩) | (go_at_call 13; refine Calls.mono (hR.out ()) ?_; rintro e w1 ⟨rfl, hb1⟩; have B1 := hbx.out.below hb1; obtain ⟨d0, d1, d2, d3, d4, d5⟩ := B1; replace hb1 : Hid _ := hb1))
      go_returns
      exact ⟨rfl, below_on (below_on hb0.out hb1.out) hb2⟩
    · have e : shwT 4 b n s z true = wN n := by simp [shwT]
      rw [e]
      have hC := fun (W : World) (hb : Below w.heap.size w W) => fmt_any n hn W (hP.below hb)
      have hl := itoa_le hn
      have u1 : ∀ W, (Op.stringOp .add (⟨#[35]⟩ : ByteArray) (txt (Lib.itoa n))).run Tryd.prog W = .ok (.string (txt (wN n))) W := fun W => add_txt [35] (Lib.itoa n) (by simp; omega) W
      generalize txt (Lib.itoa n) = X0 at *
      replace hC : Hid _ := hC
      generalize txt (wN n) = X at *
      replace hR : Hid _ := hR
      replace hbx : Hid _ := hbx
      replace hb0 : Hid _ := hb0
      go_enter Tryd.func15, Tryd.ntmps15
      go_wp2_with (first | (go_at_call 43; refine Calls.mono (hC.out _ (below_on hb0.out hb1.out)) ?_; rintro e w2 ⟨rfl, hb2⟩) | (go_at_call 13; refine Calls.mono (hR.out ()) ?_; rintro e w1 ⟨rfl, hb1⟩; have B1 := hbx.out.below hb1; obtain ⟨d0, d1, d2, d3, d4, d5⟩ := B1; replace hb1 : Hid _ := hb1))
      go_returns
      exact ⟨rfl, below_on (below_on hb0.out hb1.out) hb2⟩
    · have e : shwT 5 b n s z true = wE n := by simp [shwT]
      rw [e]
      have hC := fun (W : World) (hb : Below w.heap.size w W) => fmt_any n hn W (hP.below hb)
      have hl := itoa_le hn
      have u1 : ∀ W, (Op.stringOp .add (⟨#[64]⟩ : ByteArray) (txt (Lib.itoa n))).run Tryd.prog W = .ok (.string (txt (wE n))) W := fun W => add_txt [64] (Lib.itoa n) (by simp; omega) W
      generalize txt (Lib.itoa n) = X0 at *
      replace hC : Hid _ := hC
      generalize txt (wE n) = X at *
      replace hR : Hid _ := hR
      replace hbx : Hid _ := hbx
      replace hb0 : Hid _ := hb0
      go_enter Tryd.func15, Tryd.ntmps15
      go_wp2_with (first | (go_at_call 43; refine Calls.mono (hC.out _ (below_on hb0.out hb1.out)) ?_; rintro e w2 ⟨rfl, hb2⟩) | (go_at_call 13; refine Calls.mono (hR.out ()) ?_; rintro e w1 ⟨rfl, hb1⟩; have B1 := hbx.out.below hb1; obtain ⟨d0, d1, d2, d3, d4, d5⟩ := B1; replace hb1 : Hid _ := hb1))
      go_returns
      exact ⟨rfl, below_on (below_on hb0.out hb1.out) hb2⟩
    · obtain ⟨m, r, rfl⟩ : ∃ m r, z = m :: r := by
        cases z with
        | nil => simp at hz1
        | cons m r => exact ⟨m, r, rfl⟩
      obtain rfl : r.length + 1 = l := h1
      have e : shwT 6 b n s (m :: r) true = pathT (m :: r) := by simp [shwT]
      rw [e]
      obtain ⟨pb, off, rfl, c0⟩ := q.num 0 (by simp)
      have cks : ∀ k (h : k < r.length) (W : World), Below w.heap.size w W → W.cell? ⟨pb, off + (k + 1), none⟩ = some (.int .i64 r[k]) := fun k h W hb => by
        obtain ⟨pb', off', e, ck⟩ := q.num (k + 1) (by simpa using h)
        cases e
        have e2 : (m :: r).getD (k + 1) 0 = r[k] := by simp [List.getD, List.getElem?_eq_getElem h]
        rw [e2] at ck
        exact (hb.cell (World.block_lt_of_cell? w _ ck)).trans ck
      have c0' : ∀ (W : World), Below w.heap.size w W → W.cell? ⟨pb, off, none⟩ = some (.int .i64 m) := fun W hb => by
        have h0 : w.cell? ⟨pb, off, none⟩ = some (.int .i64 m) := by simpa using c0
        exact (hb.cell (World.block_lt_of_cell? w _ h0)).trans h0
      clear c0
      have hlr : r.length ≤ 8 := by simp at hz9; omega
      have hC := fun (W : World) (hb : Below w.heap.size w W) => fmt_any m (id_bound (hid m (by simp))) W (hP.below hb)
      have hE := fun (k : Nat) (h : k < r.length) (W : World) (hb : Below w.heap.size w W) => fmt_any r[k] (id_bound (hid _ (by simp))) W (hP.below hb)
      have hil := itoa_le (id_bound (hid m (by simp)))
      have hel := fun k => edges_le (r.take k) fun x hx => hid x (by simp [List.mem_of_mem_take hx])
      have hkl := fun k (h : k < r.length) => itoa_le (id_bound (hid r[k] (by simp)))
      have u0 : ∀ W, (Op.stringOp .add (⟨#[60, 35]⟩ : ByteArray) (txt (Lib.itoa m))).run Tryd.prog W = .ok (.string (txt (60 :: (wN m ++ edgesT (r.take 0))))) W := fun W => by
        have := add_txt [60, 35] (Lib.itoa m) (by simp; omega) W
        have e : [60, 35] ++ Lib.itoa m = 60 :: (wN m ++ edgesT (r.take 0)) := by simp [wN, edgesT]
        rw [e] at this
        exact this
      have v1 : ∀ k W, (Op.stringOp .add (txt (60 :: (wN m ++ edgesT (r.take k)))) (⟨#[32, 64]⟩ : ByteArray)).run Tryd.prog W = .ok (.string (txt (60 :: (wN m ++ edgesT (r.take k)) ++ [32, 64]))) W := fun k W => by
        refine add_txt _ [32, 64] ?_ W
        have h3 := hel k
        have h4 : (r.take k).length ≤ r.length := by rw [List.length_take]; omega
        simp only [List.length_append, List.length_cons, List.length_nil]
        unfold wN
        simp only [List.length_cons]
        omega
      have v2 : ∀ k (h : k < r.length) W, (Op.stringOp .add (txt (60 :: (wN m ++ edgesT (r.take k)) ++ [32, 64])) (txt (Lib.itoa r[k]))).run Tryd.prog W = .ok (.string (txt (60 :: (wN m ++ edgesT (r.take (k + 1)))))) W := fun k h W => by
        have e : 60 :: (wN m ++ edgesT (r.take (k + 1))) = (60 :: (wN m ++ edgesT (r.take k)) ++ [32, 64]) ++ Lib.itoa r[k] := by
          rw [List.take_succ_eq_append_getElem h, edges_snoc]
          simp [wE]
        rw [e]
        refine add_txt _ _ ?_ W
        have h3 := hel k
        have h4 : (r.take k).length ≤ r.length := by rw [List.length_take]; omega
        have h5 := hkl k h
        simp only [List.length_append, List.length_cons, List.length_nil]
        unfold wN
        simp only [List.length_cons]
        omega
      have v3 : ∀ W, (Op.stringOp .add (txt (60 :: (wN m ++ edgesT r))) (⟨#[62]⟩ : ByteArray)).run Tryd.prog W = .ok (.string (txt (pathT (m :: r)))) W := fun W => by
        have e : pathT (m :: r) = 60 :: (wN m ++ edgesT r) ++ [62] := by simp [pathT]
        rw [e]
        refine add_txt _ _ ?_ W
        have h3 := hel r.length
        rw [List.take_length] at h3
        simp only [List.length_append, List.length_cons, List.length_nil]
        unfold wN
        simp only [List.length_cons]
        omega
      replace hC : Hid _ := hC
      replace hE : Hid _ := hE
      replace hR : Hid _ := hR
      replace hbx : Hid _ := hbx
      replace hb0 : Hid _ := hb0
      replace v1 : Hid _ := v1
      replace v2 : Hid _ := v2
      replace cks : Hid _ := cks
      replace c0' : Hid _ := c0'
      clear hid hel hkl hil q hT hP hz1 hz9
      go_enter Tryd.func15, Tryd.ntmps15
      go_wp2_with (first | (go_at_call 43; refine Calls.mono (hC.out _ (below_on hb0.out hb1.out)) ?_; rintro e w2 ⟨rfl, hb2⟩) | (go_at_call 13; refine Calls.mono (hR.out ()) ?_; rintro e w1 ⟨rfl, hb1⟩; have B1 := hbx.out.below hb1; obtain ⟨d0, d1, d2, d3, d4, d5⟩ := B1; have c1 := c0'.out _ (below_on hb0.out hb1); replace hb1 : Hid _ := hb1))
      have hbA := below_on (below_on hb0.out hb1.out) hb2
      have d4' := (hb2.cell (World.block_lt_of_cell? _ _ d4)).trans d4
      replace hbA : Hid _ := hbA
      go_loopw [4, 5] (fun v i wr => ∃ k : Nat, k ≤ r.length ∧ i = .int .i64 ((k : Int) + 1) ∧ v = .string (txt (60 :: (wN m ++ edgesT (r.take k)))) ∧ wr.cell? ⟨w.heap.size, 4, none⟩ = some (.slice (some ⟨pb, off, none⟩) (r.length + 1) c) ∧ Below w.heap.size w wr) (fun _ i _ => r.length + 1 - (intOf i).toNat)
      case atStart => exact ⟨0, by omega, rfl, rfl, d4', hbA.out⟩
      case round =>
        obtain ⟨k, hk, rfl, rfl, hd, hb⟩ := hrel
        by_cases hlt : k < r.length
        · have ck := cks.out k hlt _ hb
          have hE' := fun (_ : Unit) => hE.out k hlt _ hb
          have u1 := v1.out k
          have u2 := v2.out k hlt
          generalize txt (Lib.itoa r[k]) = Y at *
          generalize txt (60 :: (wN m ++ edgesT (r.take k))) = X1 at *
          generalize txt (60 :: (wN m ++ edgesT (r.take k)) ++ [32, 64]) = X2 at *
          replace hE' : Hid _ := hE'
          replace hb : Hid _ := hb
          go_wp2_with (go_at_call 43; refine Calls.mono (hE'.out ()) ?_; rintro e w3 ⟨rfl, hb3⟩)
          all_goals exact ⟨⟨k + 1, by omega, rfl, rfl, (hb3.cell (World.block_lt_of_cell? _ _ hd)).trans hd, below_on hb.out hb3⟩, by show r.length + 1 - ((k : Int) + 1 + 1).toNat < r.length + 1 - ((k : Int) + 1).toNat; omega⟩
        · have hk2 : k = r.length := by omega
          subst hk2
          rw [List.take_length] at *
          replace hb : Hid _ := hb
          go_wp2_with fail
          go_returns
          exact ⟨rfl, hb.out⟩
end Go.Proofs.YtokkmjcpjjiaaaaDoor
