/-
  Rkd: turned for the seat of the expressions.
-/
import Derived.Test.YtkcnpbckmdgfnaaDoorRkp
import Derived.Test.YtkcnpbckmdgfnaaDoorOwa
namespace Go.Proofs.YtkcnpbckmdgfnaaDoor
open Go.ChangeShapes Go.WideShapes Go.ChangeAt Go.RowKit
set_option linter.unusedSimpArgs false
set_option linter.unusedVariables false
set_option maxRecDepth 100000 in
set_option maxHeartbeats 2000000 in
theorem kid_flat {Q : World → World → Prop} (b g o kn kc m : Nat) (op : Int) (nm pr t : ByteArray) (k : Int) (bb : Bool) (n : Int) (pv : Value) (cop : Int) (cnm cpr : List UInt8) (ck : Int) (cb : Bool) (cn : Int) (ct : List UInt8) (ka : Option Addr) (kl kq : Nat) (pa : Option Addr) (pl pq : Nat) (w : World)
    (hm : m < kn) (hx : Nine w g (o + m * 9) cop cnm cpr ck cb cn ct (.slice ka kl kq) (.slice pa pl pq)) (P : Int) (hA : ∀ w1, Calls Tryd.prog 36 #[.int .i64 op, .int .i64 (m : Int)] w1 fun e w' => e = .returned (.int .i64 P) ∧ w' = w1) (hP : P ≤ lvX cop)
    (hE : ∀ w1, Below w.heap.size w w1 → Calls Tryd.prog 9 #[.pointer (some ⟨b, 0, none⟩), .agg #[.int .i64 cop, .slice ka kl kq, .string (txt cnm), .string (txt cpr), .int .i64 ck, .bool cb, .int .i64 cn, .string (txt ct), .slice pa pl pq]] w1 fun e w' => e = .returned (.tuple #[]) ∧ Q w1 w') :
    Calls Tryd.prog 22 #[.pointer (some ⟨b, 0, none⟩), .agg #[.int .i64 op, .slice (some ⟨g, o, none⟩) kn kc, .string nm, .string pr, .int .i64 k, .bool bb, .int .i64 n, .string t, pv], .int .i64 (m : Int)] w fun e w' => e = .returned (.tuple #[]) ∧ ∃ w1, Below w.heap.size w w1 ∧ Q w1 w' := by
  have hb0 := below_new w (.cells #[.int .i64 op, .slice (some ⟨g, o, none⟩) kn kc, .string nm, .string pr, .int .i64 k, .bool bb, .int .i64 n, .string t, pv] 29)
  obtain ⟨q0, q1, q2, q3, q4, q5, q6, q7, q8⟩ := hx.below hb0
  clear hx
  have hPd : decide (lvX cop ≥ P) = true := by simp; omega
  replace hA : Hid _ := hA
  replace hE : Hid _ := hE
  replace hb0 : Hid _ := hb0
  go_enter Tryd.func22, Tryd.ntmps22
  go_wp2_with fail
  go_quiet ((first | (go_at_call 35; exact Calls.quiet_of_same (lvX_any cop _)) | (go_at_call 36; exact Calls.quiet_of_same (hA.out _))))
  rename_i nq
  go_wp2_with fail
  go_at_call 9
  have hE2 := hE.out _ (below_drewN7 (below_on hb0.out (below_new _ (.cells #[.int .i64 cop, .slice ka kl kq, .string (txt cnm), .string (txt cpr), .int .i64 ck, .bool cb, .int .i64 cn, .string (txt ct), .slice pa pl pq] 29))) nq)
  refine Calls.mono hE2 ?_
  rintro e w2 ⟨rfl, hq⟩
  go_wp2_with fail
  exact bodyPost_ret (v := .tuple #[]) (results_none rfl _ _ _) rfl ⟨rfl, _, below_drewN7 (below_on hb0.out (below_new _ _)) _, hq⟩
end Go.Proofs.YtkcnpbckmdgfnaaDoor
