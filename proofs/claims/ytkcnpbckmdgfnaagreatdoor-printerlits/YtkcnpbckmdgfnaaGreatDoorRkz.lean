/-
  Brackets: a place that asks for more than a level is the first place, one deeper and in brackets.
  A kid, in brackets where they are asked for.
  A kid in brackets.
-/
import Derived.Test.YtkcnpbckmdgfnaaGreatDoorRsg
import Derived.Test.YtkcnpbckmdgfnaaGreatDoorOwa
namespace Go.Proofs.YtkcnpbckmdgfnaaGreatDoor
open Go.ChangeShapes Go.WideShapes Go.ChangeAt Go.RowKit
set_option linter.unusedSimpArgs false
set_option linter.unusedVariables false

theorem lvl_pos (op : Int) (h : isOp op = true) : 1 ≤ (fmOf op).lvl := by
  have h2 := h
  unfold isOp at h2
  rw [Bool.and_eq_true, decide_eq_true_iff, decide_eq_true_iff] at h2
  have e : op = ((op.toNat : Nat) : Int) := by omega
  have hn : op.toNat < 27 := by omega
  have h1 : 1 ≤ op.toNat := by omega
  rw [e]
  generalize op.toNat = m at hn h1
  have : ∀ m : Nat, m < 27 → 1 ≤ m → 1 ≤ (fmOf (m : Int)).lvl := by decide
  exact this m hn h1
theorem okT_none (p d : Int) (op : Int) (nm pr : List UInt8) (k : Int) (b : Bool) (n : Int) (t : List UInt8) (ph : List Int) (ks : List Tr) (h : isOp op = false) : okT p d (.mk op nm pr k b n t ph ks) = false := by
  rw [okT]
  unfold selfB
  simp [h]
theorem okT_plain (p d : Int) (op : Int) (nm pr : List UInt8) (k : Int) (b : Bool) (n : Int) (t : List UInt8) (ph : List Int) (ks : List Tr) (ho : isOp op = true) (h : p ≤ (fmOf op).lvl) : okT p d (.mk op nm pr k b n t ph ks) = okT 1 d (.mk op nm pr k b n t ph ks) ∧ txT p (.mk op nm pr k b n t ph ks) = txT 1 (.mk op nm pr k b n t ph ks) := by
  have hl := lvl_pos op ho
  have b1 : brB op p = false := by unfold brB; simp; omega
  have b2 : brB op 1 = false := by unfold brB; simp; omega
  have e : dpN op p d = dpN op 1 d := by unfold dpN; rw [b1, b2]
  refine ⟨?_, ?_⟩
  · rw [okT, okT]
    unfold selfB
    rw [e]
  · rw [txT, txT]
    unfold ahT beT
    rw [b1, b2]
theorem okT_in (p d : Int) (op : Int) (nm pr : List UInt8) (k : Int) (b : Bool) (n : Int) (t : List UInt8) (ph : List Int) (ks : List Tr) (ho : isOp op = true) (h : (fmOf op).lvl < p) : okT p d (.mk op nm pr k b n t ph ks) = okT 1 (d + 1) (.mk op nm pr k b n t ph ks) ∧ txT p (.mk op nm pr k b n t ph ks) = [40] ++ (txT 1 (.mk op nm pr k b n t ph ks) ++ [41]) := by
  have hl := lvl_pos op ho
  have b1 : brB op p = true := by unfold brB; simp; omega
  have b2 : brB op 1 = false := by unfold brB; simp; omega
  have e : dpN op p d = dpN op 1 (d + 1) := by unfold dpN; rw [b1, b2]; simp
  refine ⟨?_, ?_⟩
  · rw [okT, okT]
    unfold selfB
    rw [e]
  · rw [txT, txT]
    unfold ahT beT
    rw [b1, b2]
    simp
/-- What has a text is not too deep. -/
theorem okT_deep (p d : Int) (op : Int) (nm pr : List UInt8) (k : Int) (b : Bool) (n : Int) (t : List UInt8) (ph : List Int) (ks : List Tr) (h : okT p d (.mk op nm pr k b n t ph ks) = true) : d ≤ 50 := by
  rw [okT] at h
  unfold selfB at h
  simp only [Bool.and_eq_true, decide_eq_true_iff] at h
  have h1 := h.1.1.1.2
  unfold dpN at h1
  have h2 : (0 : Int) ≤ (if brB op p = true then 1 else 0) := by split <;> omega
  have h3 : (0 : Int) ≤ (if (fmOf op).dp = true then 1 else 0) := by split <;> omega
  omega
end Go.Proofs.YtkcnpbckmdgfnaaGreatDoor
namespace Go.Proofs.YtkcnpbckmdgfnaaGreatDoor
open Go.ChangeShapes Go.WideShapes Go.ChangeAt Go.RowKit
set_option linter.unusedSimpArgs false
set_option linter.unusedVariables false

set_option maxRecDepth 100000 in
set_option maxHeartbeats 2000000 in
theorem kid_flat {Q : World → World → Prop} (b g o kn kc m : Nat) (op : Int) (nm pr t : ByteArray) (k : Int) (bb : Bool) (n : Int) (pv : Value) (cop : Int) (cnm cpr : List UInt8) (ck : Int) (cb : Bool) (cn : Int) (ct : List UInt8) (ka : Option Addr) (kl kq : Nat) (pa : Option Addr) (pl pq : Nat) (w : World)
    (hm : m < kn) (hx : Nine w g (o + m * 9) cop cnm cpr ck cb cn ct (.slice ka kl kq) (.slice pa pl pq)) (P : Int) (hA : ∀ w1, Calls Tryz.prog 80 #[.int .i64 op, .int .i64 (m : Int)] w1 fun e w' => e = .returned (.int .i64 P) ∧ w' = w1) (hP : P ≤ lvX cop)
    (hE : ∀ w1, Below w.heap.size w w1 → Calls Tryz.prog 22 #[.pointer (some ⟨b, 0, none⟩), .agg #[.int .i64 cop, .slice ka kl kq, .string (txt cnm), .string (txt cpr), .int .i64 ck, .bool cb, .int .i64 cn, .string (txt ct), .slice pa pl pq]] w1 fun e w' => e = .returned (.tuple #[]) ∧ Q w1 w') :
    Calls Tryz.prog 46 #[.pointer (some ⟨b, 0, none⟩), .agg #[.int .i64 op, .slice (some ⟨g, o, none⟩) kn kc, .string nm, .string pr, .int .i64 k, .bool bb, .int .i64 n, .string t, pv], .int .i64 (m : Int)] w fun e w' => e = .returned (.tuple #[]) ∧ ∃ w1, Below w.heap.size w w1 ∧ Q w1 w' := by
  have hb0 := below_new w (.cells #[.int .i64 op, .slice (some ⟨g, o, none⟩) kn kc, .string nm, .string pr, .int .i64 k, .bool bb, .int .i64 n, .string t, pv] 39)
  obtain ⟨q0, q1, q2, q3, q4, q5, q6, q7, q8⟩ := hx.below hb0
  clear hx
  have hPd : decide (lvX cop ≥ P) = true := by simp; omega
  replace hA : Hid _ := hA
  replace hE : Hid _ := hE
  replace hb0 : Hid _ := hb0
  go_enter Tryz.func46, Tryz.ntmps46
  go_wp2_with fail
  go_quiet ((first | (go_at_call 17; exact Calls.quiet_of_same (lvX_any cop _)) | (go_at_call 80; exact Calls.quiet_of_same (hA.out _))))
  rename_i nq
  go_wp2_with fail
  go_at_call 22
  have hE2 := hE.out _ (below_drewN7 (below_on hb0.out (below_new _ (.cells #[.int .i64 cop, .slice ka kl kq, .string (txt cnm), .string (txt cpr), .int .i64 ck, .bool cb, .int .i64 cn, .string (txt ct), .slice pa pl pq] 39))) nq)
  refine Calls.mono hE2 ?_
  rintro e w2 ⟨rfl, hq⟩
  go_wp2_with fail
  exact bodyPost_ret (v := .tuple #[]) (results_none rfl _ _ _) rfl ⟨rfl, _, below_drewN7 (below_on hb0.out (below_new _ _)) _, hq⟩
end Go.Proofs.YtkcnpbckmdgfnaaGreatDoor
namespace Go.Proofs.YtkcnpbckmdgfnaaGreatDoor
open Go.ChangeShapes Go.WideShapes Go.ChangeAt Go.RowKit
set_option linter.unusedSimpArgs false
set_option linter.unusedVariables false

theorem WAt.deep {B b : Nat} {T : List UInt8} {dp : Int} {bad : Bool} {w : World} (h : WAt B b T dp bad w) (dp' : Int) : WAt B b T dp' bad (w.setCell ⟨b, 1, none⟩ (.int .i64 dp')) ∧ Kps B b w (w.setCell ⟨b, 1, none⟩ (.int .i64 dp')) := by
  have hW := h
  obtain ⟨hBb, v, bs, hbk, _, _⟩ := h
  refine ⟨hW.put hbk (v := v) (cs := #[]) ?_ (by simp [World.setCell]) (fun k hk => ?_), ⟨(Below.refl B w).setCell (p := ⟨b, 1, none⟩) hBb _, (Lib.OthersKept.refl 5 (some b) w).setCell ⟨b, 1, none⟩ rfl _⟩⟩
  · simp [World.setCell, Array.getElem?_modify, hbk]
  · rw [Below.heap_setCell _ _ _ _ (fun e => hk (by simp [e]))]
theorem WAt.deep_cell {B b : Nat} {T : List UInt8} {dp : Int} {bad : Bool} {w : World} (h : WAt B b T dp bad w) : w.cell? ⟨b, 1, none⟩ = some (.int .i64 dp) ∧ w.frozen? ⟨b, 1, none⟩ = false := by
  obtain ⟨hBb, v, bs, hbk, _, _⟩ := h
  exact ⟨box_cell hbk 1, Lib.frozen_of_heap hbk 1⟩
theorem e78 (w : World) (A : Obj) (cs : Array Value) (nq : Nat) {T : Nat} : (((w.alloc A).alloc (.cells cs T)).drewN nq).heap[w.heap.size + 1]? = some (.cells cs T (0, 0)) := by
  show ((w.heap.push A).push _)[w.heap.size + 1]? = _
  simp [Array.getElem_push]
set_option maxRecDepth 100000 in
set_option maxHeartbeats 2000000 in
theorem kid_in {B : Nat} {T : List UInt8} {dp : Int} {bad : Bool} {R : List UInt8 → Bool → Prop} (b g o kn kc m : Nat) (op : Int) (nm pr t : ByteArray) (k : Int) (bb : Bool) (n : Int) (pv : Value) (cop : Int) (cnm cpr : List UInt8) (ck : Int) (cb : Bool) (cn : Int) (ct : List UInt8) (ka : Option Addr) (kl kq : Nat) (pa : Option Addr) (pl pq : Nat) (w : World)
    (hm : m < kn) (hx : Nine w g (o + m * 9) cop cnm cpr ck cb cn ct (.slice ka kl kq) (.slice pa pl pq)) (P : Int) (hA : ∀ w1, Calls Tryz.prog 80 #[.int .i64 op, .int .i64 (m : Int)] w1 fun e w' => e = .returned (.int .i64 P) ∧ w' = w1) (hP : lvX cop < P)
    (h : WAt B b T dp bad w) (hB : B ≤ w.heap.size) (h0 : 0 ≤ dp) (h1 : dp ≤ 1000)
    (hE : ∀ w1, WAt B b (T ++ [40]) (dp + 1) (bad || decide (50 < dp + 1)) w1 → Kps B b w w1 → Calls Tryz.prog 22 #[.pointer (some ⟨b, 0, none⟩), .agg #[.int .i64 cop, .slice ka kl kq, .string (txt cnm), .string (txt cpr), .int .i64 ck, .bool cb, .int .i64 cn, .string (txt ct), .slice pa pl pq]] w1 fun e w' => e = .returned (.tuple #[]) ∧ ∃ T' bad', R T' bad' ∧ WAt B b T' (dp + 1) bad' w' ∧ Kps B b w1 w') :
    Calls Tryz.prog 46 #[.pointer (some ⟨b, 0, none⟩), .agg #[.int .i64 op, .slice (some ⟨g, o, none⟩) kn kc, .string nm, .string pr, .int .i64 k, .bool bb, .int .i64 n, .string t, pv], .int .i64 (m : Int)] w fun e w' => e = .returned (.tuple #[]) ∧ ∃ T' bad', R T' bad' ∧ WAt B b (T' ++ [41]) dp bad' w' ∧ Kps B b w w' := by
  have hb0 := below_new w (.cells #[.int .i64 op, .slice (some ⟨g, o, none⟩) kn kc, .string nm, .string pr, .int .i64 k, .bool bb, .int .i64 n, .string t, pv] 39)
  obtain ⟨q0, q1, q2, q3, q4, q5, q6, q7, q8⟩ := hx.below hb0
  clear hx
  have hPd : decide (lvX cop ≥ P) = false := by simp; omega
  have hlt := h.lt
  have hD := fun (w1 : World) (h2 : WAt B b T dp bad w1) => rdown_any w1 h2 h0 (by omega)
  have hO := fun (w1 : World) (bad' : Bool) (h2 : WAt B b T (dp + 1) bad' w1) (h3 : B ≤ w1.heap.size) => rsay_any [40] w1 h2 (by decide) h3
  have hC := fun (w1 : World) (T' : List UInt8) (bad' : Bool) (h2 : WAt B b T' (dp + 1) bad' w1) (h3 : B ≤ w1.heap.size) => rsay_any [41] w1 h2 (by decide) h3
  rw [show txt [40] = ⟨#[40]⟩ from rfl] at hO
  rw [show txt [41] = ⟨#[41]⟩ from rfl] at hC
  replace hA : Hid _ := hA
  replace hE : Hid _ := hE
  replace hb0 : Hid _ := hb0
  replace h : Hid (WAt B b T dp bad w) := h
  replace hD : Hid _ := hD
  replace hO : Hid _ := hO
  replace hC : Hid _ := hC
  have hb9 : dp + 1 - 1 = dp := by omega
  go_enter Tryz.func46, Tryz.ntmps46
  go_wp2_with fail
  go_quiet ((first | (go_at_call 17; exact Calls.quiet_of_same (lvX_any cop _)) | (go_at_call 80; exact Calls.quiet_of_same (hA.out _))))
  rename_i nq
  have hbl := below_drewN7 (below_on hb0.out (below_new _ (.cells #[.int .i64 cop, .slice ka kl kq, .string (txt cnm), .string (txt cpr), .int .i64 ck, .bool cb, .int .i64 cn, .string (txt ct), .slice pa pl pq] 39))) nq
  have hk := e78 w (.cells #[.int .i64 op, .slice (some ⟨g, o, none⟩) kn kc, .string nm, .string pr, .int .i64 k, .bool bb, .int .i64 n, .string t, pv] 39) #[.int .i64 cop, .slice ka kl kq, .string (txt cnm), .string (txt cpr), .int .i64 ck, .bool cb, .int .i64 cn, .string (txt ct), .slice pa pl pq] nq (T := 39)
  replace hk : Hid _ := hk
  have hW2 : Hid (WAt B b T dp bad _) := h.out.below hbl
  have hz2 := hbl.size
  have hK2 : Hid (Kps B b w _) := Kps.of hbl hB
  replace hbl : Hid _ := hbl
  go_wp2_with fail
  go_at_call 48
  refine Calls.mono (hD.out _ hW2.out) ?_
  rintro e w3 ⟨rfl, hW3, hK3⟩
  have hz3 := hK3.size
  have hk3 := hK3.box hk.out (by decide) (by omega)
  replace hK3 : Hid (Kps B b w w3) := hK2.out.trans hK3
  replace hW3 : Hid (WAt B b T (dp + 1) _ w3) := hW3
  clear hK2 hbl
  go_wp2_with fail
  go_at_call 20
  refine Calls.mono (hO.out _ _ hW3.out (by omega)) ?_
  rintro e w4 ⟨rfl, hW4, hK4⟩
  have hz4 := hK4.size
  have hk4 := hK4.box hk3 (by decide) (by omega)
  replace hK4 : Hid (Kps B b w w4) := hK3.out.trans hK4
  replace hW4 : Hid (WAt B b (T ++ [40]) (dp + 1) _ w4) := hW4
  have r0 := box_cell hk4 0
  have r1 := box_cell hk4 1
  have r2 := box_cell hk4 2
  have r3 := box_cell hk4 3
  have r4 := box_cell hk4 4
  have r5 := box_cell hk4 5
  have r6 := box_cell hk4 6
  have r7 := box_cell hk4 7
  have r8 := box_cell hk4 8
  simp only [List.getElem?_toArray, List.getElem?_cons_zero, List.getElem?_cons_succ] at r0 r1 r2 r3 r4 r5 r6 r7 r8
  replace hk3 : Hid _ := hk3
  replace hk4 : Hid _ := hk4
  go_wp2_with fail
  go_at_call 22
  refine Calls.mono (hE.out _ hW4.out hK4.out) ?_
  rintro e w5 ⟨rfl, T', bad', hR, hW5, hK5⟩
  have hz5 := hK5.size
  replace hK5 : Hid (Kps B b w w5) := hK4.out.trans hK5
  replace hW5 : Hid (WAt B b T' (dp + 1) _ w5) := hW5
  go_wp2_with fail
  go_at_call 20
  refine Calls.mono (hC.out _ _ _ hW5.out (by omega)) ?_
  rintro e w6 ⟨rfl, hW6, hK6⟩
  replace hK6 : Hid (Kps B b w w6) := hK5.out.trans hK6
  have g1 := hW6.deep_cell.1
  have g2 := hW6.deep_cell.2
  have hF := hW6.deep dp
  replace hF : Hid _ := hF
  replace hW6 : Hid (WAt B b (T' ++ [41]) (dp + 1) _ w6) := hW6
  go_wp2_with fail
  exact bodyPost_end (results_none rfl _ _ _) rfl ⟨rfl, T', bad', hR, hF.out.1, hK6.out.trans hF.out.2⟩
end Go.Proofs.YtkcnpbckmdgfnaaGreatDoor
