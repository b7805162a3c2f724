/-
  What stands for a text.
-/
import Derived.Test.YtomhgaihmdjdbaaDoorDc2
import Derived.Test.YtomhgaihmdjdbaaDoorPut
import Derived.Deep.RegionWith
namespace Go.Proofs.YtomhgaihmdjdbaaDoor
open Go.RowKit
set_option linter.unusedSimpArgs false
set_option linter.unusedVariables false

set_option maxRecDepth 100000 in
set_option maxHeartbeats 2000000 in
theorem numOK_text (base x : Nat) (C : Col) (b : Bool) (n : Int) (s : ByteArray) (p : Option Addr) (l c : Nat) (h6 : C.k ≠ 6) (hs : s.size ≤ maxLen) (hX : (C.X.length + 1) * 16 ≤ 140737488355328) : NumOK base x C 3 b n s p l c (txtNum C.X s) (txtOn C.X s) := by
  intro W D hk hH hXX hb hD
  rw [← hXX]
  have hbx := BoxAt.new W 3 b n s p l c rfl
  have hB0 := below_new W (.cells #[.int .i64 3, .bool b, .int .i64 n, .string s, .slice p l c] 39)
  have hD1 := (hD.below hB0).below ((Below.refl _ _).drew)
  have hc := dnum_col base x D s hs _ (by rw [hXX]; exact hX) (by simp; omega) hD1
  have c0 := (hD.below hB0).vb.c0
  have k6 : ¬ (D.k == 6) = true := by rw [hk]; simpa using h6
  obtain ⟨b0, b1, b2, b3, b4, -⟩ := hbx
  replace hc : Hid _ := hc
  replace hD : Hid _ := hD
  generalize D.k = kc at *
  clear hk
  go_enter Tryd.func54, Tryd.ntmps54
  go_wp2_with fail
  go_region_with (go_at_call 66; refine Calls.mono hc.out ?_; rintro e w1 ⟨tv', pv', rfl, q1, q2, q3⟩; replace q1 : Hid _ := q1; replace q2 : Hid _ := q2; replace q3 : Hid _ := q3)
  go_wp2_with fail
  go_returns
  refine ⟨tv', pv', by simp [Act.put, hXX], q1.out, ?_, ?_⟩
  · exact (Below.only _ hB0).trans (Only.undrew q2.out) (fun _ _ h => h)
  · exact Kin.trans (Kin.refl W x D) q3.out (by simp)
end Go.Proofs.YtomhgaihmdjdbaaDoor
