/-
  RawgraphTurns: its own walk.
-/
import Derived.Test.YtmioohbailhppaaDoorTrd
import Derived.Test.YtmioohbailhppaaDoorSrd
import Derived.Test.YtmioohbailhppaaDoorHead
import Derived.Test.YtmioohbailhppaaDoorSme
namespace Go.Proofs.YtmioohbailhppaaDoor
open Go.RowKit
set_option linter.unusedSimpArgs false
set_option linter.unusedVariables false

theorem cells4_at {W w' : World} (s1 s2 s3 s4 : Value) (t : TypeId) (hb : Below (W.alloc (.cells #[s1, s2, s3, s4] t)).heap.size (W.alloc (.cells #[s1, s2, s3, s4] t)) w') : w'.cell? ⟨W.heap.size, 0, none⟩ = some s1 ∧ w'.cell? ⟨W.heap.size, 1, none⟩ = some s2 ∧ w'.cell? ⟨W.heap.size, 2, none⟩ = some s3 ∧ w'.cell? ⟨W.heap.size, 3, none⟩ = some s4 := by
  have h := (OB.new W s1 s2 s3 s4 t).below hb
  exact ⟨h.c0, h.c1, h.c2, h.c3⟩
theorem chk_fine {r : RW} (h : chk r = (0, 0, 0)) : (chk r).2.2 = 0 := by rw [h]

set_option maxRecDepth 100000 in
set_option maxHeartbeats 8000000 in
theorem Turns_walk (a1 : Option Addr) (n1 c1 : Nat) (a2 : Option Addr) (n2 c2 : Nat) (a3 : Option Addr) (n3 c3 : Nat) (a4 : Option Addr) (n4 c4 : Nat) (r : RW) (pa : Option Addr) (pn pc : Nat) (P : Nat → Nat) (da : Option Addr) (dn dc : Nat) (D : Nat → Nat) (w : World)
    (hG : GrAt w a1 n1 c1 a2 n2 c2 a3 n3 c3 a4 n4 c4 r) (hP : BsAt w pa pn P) (hpn : pn ≤ maxLen) (hD : BsAt w da dn D) (hdn : dn ≤ maxLen) (hT : Tabs w) :
    Calls Tryd.prog 5 #[.agg #[.slice a1 n1 c1, .slice a2 n2 c2, .slice a3 n3 c3, .slice a4 n4 c4], .slice pa pn pc, .slice da dn dc] w fun e w' => e = .returned (.bool true) ∧ Below w.heap.size w w' := by
  have b3 := hG.b3
  have b4 := hG.b4
  have hCk := fun (p3 : Option Addr) m3 d3 (p4 : Option Addr) m4 d4 (x : RW) w' (hg : GrAt w' a1 n1 c1 a2 n2 c2 p3 m3 d3 p4 m4 d4 x) (ht : Tabs w') => Check_any a1 n1 c1 a2 n2 c2 p3 m3 d3 p4 m4 d4 x w' hg.l1 hg.k1 hg.m1 hg.h1 hg.l2 hg.k2 hg.m2 hg.h2 hg.l3 (by have := hg.b3; unfold maxLen; omega) hg.h3 hg.l4 (by have := hg.b4; unfold maxLen; omega) hg.h4 ht
  have hH := fun w' (hb : Below w.heap.size w w') => head_any w' (hT.below hb)
  have hC := fun w' (hb : Below w.heap.size w w') => hCk a3 n3 c3 a4 n4 c4 r w' (hG.below hb) (hT.below hb)
  have hb0 : Below w.heap.size w (w.alloc (.cells #[.slice a1 n1 c1, .slice a2 n2 c2, .slice a3 n3 c3, .slice a4 n4 c4] 28)) := below_new _ _
  have hv := fun w' (hb : Below (w.alloc (.cells #[.slice a1 n1 c1, .slice a2 n2 c2, .slice a3 n3 c3, .slice a4 n4 c4] 28)).heap.size (w.alloc (.cells #[.slice a1 n1 c1, .slice a2 n2 c2, .slice a3 n3 c3, .slice a4 n4 c4] 28)) w') => cells4_at (W := w) (.slice a1 n1 c1) (.slice a2 n2 c2) (.slice a3 n3 c3) (.slice a4 n4 c4) 28 hb
  replace hH : Hid _ := hH
  by_cases hA : (chk r).2.2 = 0
  case neg =>
    generalize chk r = A at hC hA
    obtain ⟨A1, A2, A3⟩ := A
    simp only at hC hA
    have htb : (A3 != 0) = true := by simpa using hA
    obtain ⟨v0, v1, v2, v3⟩ := hv _ (Below.refl _ _)
    replace hC : Hid _ := hC
    replace hv : Hid _ := hv
    clear hG hP hD hT hCk
    go_enter Tryd.func5, Tryd.ntmps5
    go_wp2_with (first
      | (go_at_call 8; refine Calls.mono (hH.out _ hb0) ?_; rintro e w1 ⟨rfl, hb1⟩; obtain ⟨v0, v1, v2, v3⟩ := hv.out _ hb1)
      | (go_at_call 11; refine Calls.mono (hC.out _ (below_on hb0 hb1)) ?_; rintro e w2 ⟨rfl, hb2⟩))
    all_goals first | (exfalso; simp_all; done) | (go_returns; exact ⟨by simp, below_on (below_on (below_on hb0 hb1) hb2) (below_new _ _)⟩)
  have hF := fine_of hA
  have hS := fun w' (hb : Below w.heap.size w w') => Sorted_ok a1 n1 c1 a2 n2 c2 a3 n3 c3 a4 n4 c4 r w' (hG.below hb) (hT.below hb) hA
  have hTu := fun w' (hb : Below w.heap.size w w') => turned_any a1 n1 c1 a2 n2 c2 a3 n3 c3 a4 n4 c4 r pa pn pc P da dn dc D w' (hG.below hb) (hP.below hb) hpn (hD.below hb) hdn
  have hT0 := fun w' (hb : Below w.heap.size w w') => turned_any a1 n1 c1 a2 n2 c2 a3 n3 c3 a4 n4 c4 r pa pn pc P none 0 0 (fun _ => 0) w' (hG.below hb) (hP.below hb) hpn ⟨fun _ => (by decide : 0 < 256), .inl rfl⟩ (Nat.zero_le _)
  rw [hF.chk] at hC
  simp only at hC
  obtain ⟨v0, v1, v2, v3⟩ := hv _ (Below.refl _ _)
  replace hC : Hid _ := hC
  replace hv : Hid _ := hv
  replace hCk : Hid _ := hCk
  replace hS : Hid _ := hS
  replace hTu : Hid _ := hTu
  replace hT0 : Hid _ := hT0
  replace hT : Hid _ := hT
  replace hF : Hid _ := hF
  clear hP hD hA
  go_enter Tryd.func5, Tryd.ntmps5
  go_upto_region 5 with (first
    | (go_at_call 8; refine Calls.mono (hH.out _ hb0) ?_; rintro e w1 ⟨rfl, hb1⟩; obtain ⟨v0, v1, v2, v3⟩ := hv.out _ hb1)
    | (go_at_call 11; refine Calls.mono (hC.out _ (below_on hb0 hb1)) ?_; rintro e w2 ⟨rfl, hb2⟩))
  have hk2 := below_on (below_on hb1 hb2) (below_new w2 (.cells #[.int .i64 0, .int .i64 0] 31))
  clear hC hH hb1 hb2 v0 v1 v2 v3
  generalize w2.alloc (.cells #[.int .i64 0, .int .i64 0] 31) = W2 at hk2 ⊢
  generalize w2.heap.size = z2
  obtain ⟨v0, v1, v2, v3⟩ := hv.out _ hk2
  go_upto_region 6 with fail
  refine Calls.mono (hTu.out _ (below_on hb0 hk2)) ?_
  rintro e w3 ⟨⟨p3, m3, d3, p4, m4, d4, x1, rfl, g1, e1, e2, e3, ⟨S1, e4, e5⟩, -⟩, hb3⟩
  have hck1 := hCk.out p3 m3 d3 p4 m4 d4 x1 w3 g1 (Tabs.below hT.out (below_on (below_on hb0 hk2) hb3))
  rw [(Fine.other hF.out e1 e2 e3 e4 e5).chk] at hck1
  simp only at hck1
  replace hck1 : Hid _ := hck1
  clear e1 e2 e3 e4 e5 g1
  go_upto_region 6 with (go_at_call 11; refine Calls.mono hck1.out ?_; rintro e w4 ⟨rfl, hb4⟩)
  have hk4 := below_on (below_on (below_on hk2 hb3) hb4) (below_new w4 (.cells #[.int .i64 0, .int .i64 0] 31))
  clear hTu hck1 hb3 hb4 v0 v1 v2 v3 hk2
  generalize w4.alloc (.cells #[.int .i64 0, .int .i64 0] 31) = W4 at hk4 ⊢
  generalize w4.heap.size = z4
  obtain ⟨v0, v1, v2, v3⟩ := hv.out _ hk4
  go_upto_region 7 with (go_at_call 13; refine Calls.mono (hS.out _ (below_on hb0 hk4)) ?_; rintro e w5 ⟨⟨q1, f1, q2, f2, q3, f3, q4, f4, x, rfl, gx, sx⟩, hb5⟩)
  have hv5 := fun w' (hb : Below (w5.alloc (.cells #[.slice q1 n1 f1, .slice q2 n2 f2, .slice q3 n3 f3, .slice q4 n4 f4] 28)).heap.size (w5.alloc (.cells #[.slice q1 n1 f1, .slice q2 n2 f2, .slice q3 n3 f3, .slice q4 n4 f4] 28)) w') => cells4_at (W := w5) (.slice q1 n1 f1) (.slice q2 n2 f2) (.slice q3 n3 f3) (.slice q4 n4 f4) 28 hb
  replace gx := gx.below (below_new w5 (.cells #[.slice q1 n1 f1, .slice q2 n2 f2, .slice q3 n3 f3, .slice q4 n4 f4] 28))
  have hk5 := below_on (below_on hk4 hb5) (below_new w5 (.cells #[.slice q1 n1 f1, .slice q2 n2 f2, .slice q3 n3 f3, .slice q4 n4 f4] 28))
  clear hb5 v0 v1 v2 v3 hk4 hS
  generalize w5.alloc (.cells #[.slice q1 n1 f1, .slice q2 n2 f2, .slice q3 n3 f3, .slice q4 n4 f4] 28) = W5 at hk5 hv5 gx ⊢
  generalize w5.heap.size = z5 at hv5 ⊢
  obtain ⟨v0, v1, v2, v3⟩ := hv.out _ hk5
  replace hv5 : Hid _ := hv5
  go_upto_region 8 with fail
  refine Calls.mono (hT0.out _ (below_on hb0 hk5)) ?_
  rintro e w6 ⟨⟨p3, m3, d3, p4, m4, d4, x2, rfl, g2, e1, e2, e3, ⟨S1, e4, e5⟩, e6⟩, hb6⟩
  obtain rfl : m3 = n3 := by rw [← g2.l3, ← hG.l3]; exact e3.length_eq
  replace e6 := e6 (by trivial)
  obtain rfl : m4 = n4 := by rw [← g2.l4, ← hG.l4]; exact e6.length_eq
  have hso := Sorted_ok a1 n1 c1 a2 n2 c2 p3 m3 d3 p4 m4 d4 x2 w6 g2 (Tabs.below hT.out (below_on (below_on hb0 hk5) hb6)) (chk_fine (Fine.other hF.out e1 e2 e3 e4 e5).chk)
  replace hso : Hid _ := hso
  clear g2 e4 e5
  go_upto_region 8 with (go_at_call 13; refine Calls.mono hso.out ?_; rintro e w7 ⟨⟨u1, h1, u2, h2, u3, h3, u4, h4, y, rfl, gy, sy⟩, hb7⟩)
  have hv7 := fun w' (hb : Below (w7.alloc (.cells #[.slice u1 n1 h1, .slice u2 n2 h2, .slice u3 m3 h3, .slice u4 m4 h4] 28)).heap.size (w7.alloc (.cells #[.slice u1 n1 h1, .slice u2 n2 h2, .slice u3 m3 h3, .slice u4 m4 h4] 28)) w') => cells4_at (W := w7) (.slice u1 n1 h1) (.slice u2 n2 h2) (.slice u3 m3 h3) (.slice u4 m4 h4) 28 hb
  replace gy := gy.below (below_new w7 (.cells #[.slice u1 n1 h1, .slice u2 n2 h2, .slice u3 m3 h3, .slice u4 m4 h4] 28))
  have hk57 := below_on (below_on hb6 hb7) (below_new w7 (.cells #[.slice u1 n1 h1, .slice u2 n2 h2, .slice u3 m3 h3, .slice u4 m4 h4] 28))
  clear hb6 hb7 v0 v1 v2 v3 hT0 hso
  generalize w7.alloc (.cells #[.slice u1 n1 h1, .slice u2 n2 h2, .slice u3 m3 h3, .slice u4 m4 h4] 28) = W7 at hk57 hv7 gy ⊢
  generalize w7.heap.size = z7 at hv7 ⊢
  replace gx := gx.below hk57
  have hk7 := below_on hk5 hk57
  obtain ⟨x0, x1', x2', x3⟩ := hv5.out _ hk57
  have hsx := Sorted_ok q1 n1 f1 q2 n2 f2 q3 m3 f3 q4 m4 f4 x W7 gx (Tabs.below hT.out (below_on hb0 hk7)) (chk_fine (Fine.sorted hF.out sx).chk)
  replace hsx : Hid _ := hsx
  replace hv7 : Hid _ := hv7
  clear hk5 hCk hT
  go_upto_region 9 with (go_at_call 13; refine Calls.mono hsx.out ?_; rintro e w8 ⟨⟨t1, k1, t2, k2, t3, k3, t4, k4, z, rfl, gz, sz⟩, hb8⟩)
  have hv8 := fun w' (hb : Below (w8.alloc (.cells #[.slice t1 n1 k1, .slice t2 n2 k2, .slice t3 m3 k3, .slice t4 m4 k4] 28)).heap.size (w8.alloc (.cells #[.slice t1 n1 k1, .slice t2 n2 k2, .slice t3 m3 k3, .slice t4 m4 k4] 28)) w') => cells4_at (W := w8) (.slice t1 n1 k1) (.slice t2 n2 k2) (.slice t3 m3 k3) (.slice t4 m4 k4) 28 hb
  replace gz := gz.below (below_new w8 (.cells #[.slice t1 n1 k1, .slice t2 n2 k2, .slice t3 m3 k3, .slice t4 m4 k4] 28))
  have hk78 := below_on hb8 (below_new w8 (.cells #[.slice t1 n1 k1, .slice t2 n2 k2, .slice t3 m3 k3, .slice t4 m4 k4] 28))
  clear hb8 x0 x1' x2' x3 hsx
  generalize w8.alloc (.cells #[.slice t1 n1 k1, .slice t2 n2 k2, .slice t3 m3 k3, .slice t4 m4 k4] 28) = W8 at hk78 hv8 gz ⊢
  generalize w8.heap.size = z8 at hv8 ⊢
  replace gx := gx.below hk78
  replace gy := gy.below hk78
  have hk8 := below_on hk7 hk78
  have hk58 := below_on hk57 hk78
  obtain ⟨x0, x1', x2', x3⟩ := hv5.out _ hk58
  obtain ⟨y0, y1, y2, y3⟩ := hv7.out _ hk78
  have hs1 := Same_yes q1 n1 f1 q2 n2 f2 q3 m3 f3 q4 m4 f4 x u1 h1 u2 h2 u3 h3 u4 h4 y W8 gx gy (by rw [sx.nt, sy.nt, e1]) (by rw [sx.et, sy.et, e2]) (fun i hi => eq_n sx.bn sy.bn (one_n hF.out.nn e3 e1 sx sy) i (by rw [gx.l3]; exact hi)) (fun i hi => eq_e sx.be sy.be (one_e hF.out.en e6 e2 sx sy) i (by rw [gx.l4]; exact hi))
  replace hs1 : Hid _ := hs1
  replace hv8 : Hid _ := hv8
  go_upto_region 10 with (go_at_call 15; refine Calls.mono hs1.out ?_; rintro e w9 ⟨rfl, hb9⟩)
  clear x0 x1' x2' x3 y0 y1 y2 y3 hs1
  obtain ⟨x0, x1', x2', x3⟩ := hv5.out _ (below_on hk58 hb9)
  obtain ⟨y0, y1, y2, y3⟩ := hv8.out _ hb9
  have hs2 := Same_yes q1 n1 f1 q2 n2 f2 q3 m3 f3 q4 m4 f4 x t1 k1 t2 k2 t3 k3 t4 k4 z w9 (gx.below hb9) (gz.below hb9) sz.nt.symm sz.et.symm (fun i hi => eq_n sx.bn sz.bn (again_n hF.out sx sz) i (by rw [gx.l3]; exact hi)) (fun i hi => eq_e sx.be sz.be (again_e hF.out sx sz) i (by rw [gx.l4]; exact hi))
  replace hs2 : Hid _ := hs2
  have hk9 := below_on (below_on hb0 hk8) hb9
  go_wp2_with (go_at_call 15; refine Calls.mono hs2.out ?_; rintro e w10 ⟨rfl, hb10⟩)
  go_returns
  exact ⟨by simp, below_on hk9 hb10⟩
end Go.Proofs.YtmioohbailhppaaDoor
