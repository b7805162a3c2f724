/-
  What put answers, whatever the value.
-/
import Derived.Test.YtomhgaihmdjdbaaDoorPun
namespace Go.Proofs.YtomhgaihmdjdbaaDoor
open Go.RowKit
set_option linter.unusedSimpArgs false
set_option linter.unusedVariables false

set_option maxRecDepth 100000 in
theorem number_plain (x : Nat) (kc : Int) (nv mv tv pv hv : Value) (k : Int) (b : Bool) (n : Int) (s : ByteArray) (p : Option Addr) (l c : Nat) (w : World) (hV : VB w x kc nv mv tv pv hv) (h6 : kc ≠ 6) (h3 : k ≠ 3) :
    Calls Tryd.prog 54 #[.pointer (some ⟨x, 0, none⟩), .agg #[.int .i64 k, .bool b, .int .i64 n, .string s, .slice p l c]] w fun e w' => e = .returned (.int .i64 (if b = true then 1 else n)) ∧ Below w.heap.size w w' := by
  have c0 := hV.c0
  have hx := hV.lt
  clear hV
  have h6' : ¬ (kc == 6) = true := by simpa using h6
  have h3' : ¬ (k == 3) = true := by simpa using h3
  cases b
  all_goals
    go_enter Tryd.func54, Tryd.ntmps54
    go_wp2
    go_returns
    exact ⟨rfl, by go_grown⟩
/-- A number that stands for a value that is neither a text nor a path. -/
def numP (b : Bool) (n : Int) : Int := if b = true then 1 else n
theorem numOK_plain (base x : Nat) (C : Col) (k : Int) (b : Bool) (n : Int) (s : ByteArray) (p : Option Addr) (l c : Nat) (h6 : C.k ≠ 6) (h3 : k ≠ 3) : NumOK base x C k b n s p l c (numP b n) C.X := by
  intro W D hk hH hX hb hD
  refine (number_plain x D.k D.nv D.mv D.tv D.pv D.hv k b n s p l c W hD.vb (by rw [hk]; exact h6) h3).mono fun e w' ⟨he, hbl⟩ => ?_
  refine ⟨D.tv, D.pv, he, ?_, Below.only _ hbl, ?_⟩
  · rw [← hX]; exact hD.below hbl
  · rw [← hX]; exact Kin.refl _ _ _
set_option maxRecDepth 100000 in
theorem number_path (x : Nat) (nv mv tv pv : Value) (ha : Option Addr) (hn hc : Nat) (k : Int) (b : Bool) (n : Int) (s : ByteArray) (p : Option Addr) (l c : Nat) (w : World) (hV : VB w x 6 nv mv tv pv (.slice ha hn hc)) :
    Calls Tryd.prog 54 #[.pointer (some ⟨x, 0, none⟩), .agg #[.int .i64 k, .bool b, .int .i64 n, .string s, .slice p l c]] w fun e w' => e = .returned (.int .i64 hn) ∧ Below w.heap.size w w' := by
  have c0 := hV.c0
  have c5 := hV.c5
  have hx := hV.lt
  clear hV
  go_enter Tryd.func54, Tryd.ntmps54
  go_wp2
  go_returns
  exact ⟨rfl, by go_grown⟩
theorem numOK_path (base x : Nat) (C : Col) (k : Int) (b : Bool) (n : Int) (s : ByteArray) (p : Option Addr) (l c : Nat) (h6 : C.k = 6) : NumOK base x C k b n s p l c C.Hp.length C.X := by
  intro W D hk hH hX hb hD
  obtain ⟨ha, hc, e5⟩ := own_slice hD.o5
  have hV := hD.vb
  rw [e5, hk, h6] at hV
  refine (number_path x D.nv D.mv D.tv D.pv ha D.Hp.length hc k b n s p l c W hV).mono fun e w' ⟨he, hbl⟩ => ?_
  refine ⟨D.tv, D.pv, by rw [he, hH], ?_, Below.only _ hbl, ?_⟩
  · rw [← hX]; exact hD.below hbl
  · rw [← hX]; exact Kin.refl _ _ _
/-- What a column has become behind one that was put. -/
def Behind (C C' : Col) (k : Int) (z : List Int) (r : Int) (X' : List ByteArray) : Prop :=
  C'.k = C.k ∧ C'.L = (if k = 0 then setB C.L C.M.length else C.L) ∧ C'.M = C.M ++ [r] ∧ C'.X = X' ∧ C'.Hp = C.Hp ++ z
theorem put_any (base x : Nat) (C : Col) (k : Int) (b : Bool) (n : Int) (s : ByteArray) (p : Option Addr) (l c : Nat) (z : List Int) (r : Int) (X' : List ByteArray) (w : World) (hC : ColAt w base x C) (hN : NumOK base x C k b n s p l c r X') (hb : base ≤ w.heap.size) (hz : z.length = l) (hp : PathAt w p z) (hpf : ∀ g off, p = some ⟨g, off, none⟩ → z ≠ [] → ¬ Foot x C g) (hM : C.M.length < 10000000000000) (hL : C.L.length < 10000000000000) (hH : C.Hp.length + l < 10000000000000) :
    Calls Tryd.prog 38 #[.pointer (some ⟨x, 0, none⟩), .agg #[.int .i64 k, .bool b, .int .i64 n, .string s, .slice p l c]] w fun e w' => e = .returned (.tuple #[]) ∧ ∃ C', ColAt w' base x C' ∧ Behind C C' k z r X' ∧ Only (Foot x C) w w' ∧ Kin w x C C' := by
  by_cases hk : k = 0
  · refine (put_null base x C k b n s p l c z r X' w hC hk hN hb hz hp hpf hM hL hH).mono fun e w' ⟨he, C', h1, h2, h3, h4, h5, h6, h7, h8⟩ => ⟨he, C', h1, ⟨h2, by rw [if_pos hk]; exact h3, h4, h5, h6⟩, h7, h8⟩
  · refine (put_some base x C k b n s p l c z r X' w hC hk hN hb hz hp hpf hM hL hH).mono fun e w' ⟨he, C', h1, h2, h3, h4, h5, h6, h7, h8⟩ => ⟨he, C', h1, ⟨h2, by rw [if_neg hk]; exact h3, h4, h5, h6⟩, h7, h8⟩


theorem wanted_yes {ops : Array Oper} {o : Oper} {tmps : Array Value} {j q : Nat} {oj : Oper} {want : Bool} (hg : o.guard = some (j, want)) (hj : ops[j]? = some oj) (hd : oj.dst = some q) (hq : tmps[q]? = some (.bool want)) : Region.wanted o (yielded ops tmps) = true := by
  unfold Region.wanted yielded
  rw [hg]
  simp [hj, hd, hq]
theorem wanted_no {ops : Array Oper} {o : Oper} {tmps : Array Value} {j q : Nat} {oj : Oper} {want : Bool} (hg : o.guard = some (j, want)) (hj : ops[j]? = some oj) (hd : oj.dst = some q) (hq : tmps[q]? = some (.bool (!want))) : Region.wanted o (yielded ops tmps) = false := by
  unfold Region.wanted yielded
  rw [hg]
  simp [hj, hd, hq]
end Go.Proofs.YtomhgaihmdjdbaaDoor
