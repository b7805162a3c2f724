/-
  A graph in order: Sorted.
-/
import Derived.Test.YtmioohbailhppaaDoorSrg
import Derived.Deep.RegionHeld3
import Derived.Deep.RegionWith
import Derived.Deep.DeepCutAuto
namespace Go.Proofs.YtmioohbailhppaaDoor
open Go.RowKit
set_option linter.unusedSimpArgs false
set_option linter.unusedVariables false


set_option maxRecDepth 100000 in
set_option maxHeartbeats 4000000 in
theorem Sorted_ok (a1 : Option Addr) (n1 c1 : Nat) (a2 : Option Addr) (n2 c2 : Nat) (a3 : Option Addr) (n3 c3 : Nat) (a4 : Option Addr) (n4 c4 : Nat) (r : RW) (w : World) (hG : GrAt w a1 n1 c1 a2 n2 c2 a3 n3 c3 a4 n4 c4 r) (hT : Tabs w) (hA : (chk r).2.2 = 0) :
    Calls Tryd.prog 13 #[.agg #[.slice a1 n1 c1, .slice a2 n2 c2, .slice a3 n3 c3, .slice a4 n4 c4]] w fun e w' => (∃ p1 d1 p2 d2 p3 d3 p4 d4 x, e = .returned (.tuple #[.agg #[.slice p1 n1 d1, .slice p2 n2 d2, .slice p3 n3 d3, .slice p4 n4 d4], .int .i64 0]) ∧ GrAt w' p1 n1 d1 p2 n2 d2 p3 n3 d3 p4 n4 d4 x ∧ SrtG r x) ∧ Below w.heap.size w w' := by
  have b3 := hG.b3
  have b4 := hG.b4
  have hC := fun w' (hb : Below w.heap.size w w') => Check_any a1 n1 c1 a2 n2 c2 a3 n3 c3 a4 n4 c4 r w' hG.l1 hG.k1 hG.m1 (hG.h1.below hb) hG.l2 hG.k2 hG.m2 (hG.h2.below hb) hG.l3 (by unfold maxLen; omega) (hG.h3.below hb) hG.l4 (by unfold maxLen; omega) (hG.h4.below hb) (hT.below hb)
  obtain ⟨o1, o2, o3, o4, o5⟩ := chk_ok hA
  rw [o5] at hC
  simp only at hC
  have q1 := few_of _ (firstBad_all o1)
  have q2 := few_of _ (firstBad_all o2)
  have u1 := many_of _ (firstBad_all o1)
  have u2 := many_of _ (firstBad_all o2)
  rw [hG.l1] at u1
  rw [hG.l2] at u2
  have hT1 := fun w' (hb : Below w.heap.size w w') => copyTypes_any a1 n1 c1 r.nt w' hG.l1 (hG.h1.below hb) (by omega) q1
  have hT2 := fun w' (hb : Below w.heap.size w w') => copyTypes_any a2 n2 c2 r.et w' hG.l2 (hG.h2.below hb) (by omega) q2
  have hN := fun w' (hb : Below w.heap.size w w') => sortNodes_any a1 n1 c1 r.nt a3 n3 c3 r.nd w' hG.l1 (by unfold maxLen; omega) (hG.h1.below hb) q1 hG.l3 (hG.h3.below hb) (by omega) (labs_n o3)
  have hE := fun w' (hb : Below w.heap.size w w') => sortEdges_any a2 n2 c2 r.et a4 n4 c4 r.ed w' hG.l2 (by unfold maxLen; omega) (hG.h2.below hb) q2 hG.l4 (hG.h4.below hb) (by omega) (labs_e o4)
  replace hT1 : Hid _ := hT1
  replace hT2 : Hid _ := hT2
  replace hN : Hid _ := hN
  replace hE : Hid _ := hE
  replace hC : Hid _ := hC
  clear hA o1 o2 o3 o4 o5 q1 q2 hG hT
  have hb0 : Below w.heap.size w ((w.alloc (.cells #[.slice a1 n1 c1, .slice a2 n2 c2, .slice a3 n3 c3, .slice a4 n4 c4] 28)).alloc (.cells #[.slice none 0 0, .slice none 0 0, .slice none 0 0, .slice none 0 0] 28)) := below_on (below_new _ _) (below_new _ _)
  go_enter Tryd.func13, Tryd.ntmps13
  go_upto_region 4 with (go_at_call 11; refine Calls.mono (hC.out _ hb0) ?_; rintro e w1 ⟨rfl, hb1⟩; have hk2 := hb1)
  have hbn := below_new w1 (.cells #[.int .i64 0, .int .i64 0] 31)
  replace hk2 := below_on hk2 hbn
  have hbw := below_on hb0 hk2
  have hT4 := fun w' hb => two4 (w1 := w') w _ _ _ _ _ _ _ _ _ (below_on hk2 hb)
  generalize w1.alloc (.cells #[.int .i64 0, .int .i64 0] 31) = W at hk2 hbw hT4 ⊢
  have hcur : Below W.heap.size W W.drew := (Below.refl _ _).drew
  have hB0 : w.heap.size + 2 ≤ W.heap.size := (hT4 _ (Below.refl _ _)).2.2.2
  have hS4 : ∀ w' s1 s2 s3 s4, Below W.heap.size W w' → SB w a1 n1 c1 a2 n2 c2 a3 n3 c3 a4 n4 c4 ((((w'.setCell ⟨w.heap.size + 1, 0, none⟩ s1).setCell ⟨w.heap.size + 1, 1, none⟩ s2).setCell ⟨w.heap.size + 1, 2, none⟩ s3).setCell ⟨w.heap.size + 1, 3, none⟩ s4) := fun w' s1 s2 s3 s4 hb => by
    obtain ⟨⟨v0, v1, v2, v3⟩, -⟩ := hT4 w' hb
    refine ⟨?_, ?_, ?_, ?_⟩ <;> (rw [World.cell?_setCell_other _ _ _ _ (by simp), World.cell?_setCell_other _ _ _ _ (by simp), World.cell?_setCell_other _ _ _ _ (by simp), World.cell?_setCell_other _ _ _ _ (by simp)]; assumption)
  have hS : ∀ w', Below W.heap.size W w' → SB w a1 n1 c1 a2 n2 c2 a3 n3 c3 a4 n4 c4 w' := fun w' hb => (hT4 w' hb).1
  replace hT4 : Hid _ := hT4
  replace hS : Hid _ := hS
  replace hS4 : Hid _ := hS4
  clear hbn hb1 hk2
  unfold SB at hS hS4
  go_region_held3 (fun w' => w'.cell? ⟨w.heap.size, 0, none⟩ = some (.slice a1 n1 c1) ∧ w'.cell? ⟨w.heap.size, 1, none⟩ = some (.slice a2 n2 c2) ∧ w'.cell? ⟨w.heap.size, 2, none⟩ = some (.slice a3 n3 c3) ∧ w'.cell? ⟨w.heap.size, 3, none⟩ = some (.slice a4 n4 c4))
    (first | exact hS.out _ hcur | exact hS4.out _ _ _ _ _ hcur)
    (first
      | (go_at_call 28; with_reducible refine Calls.mono (hT1.out _ (below_on hbw hcur)) ?_; rintro e wA ⟨p1, d1, rfl, F1, hx⟩; replace F1 := F1.lower (b' := W.heap.size) hcur.size; replace hcur := below_on hcur hx; clear hx)
      | (go_at_call 28; with_reducible refine Calls.mono (hT2.out _ (below_on hbw hcur)) ?_; rintro e wB ⟨p2, d2, rfl, F2, hx⟩; replace F2 := F2.lower (b' := W.heap.size) hcur.size; replace F1 := F1.below hx; replace hcur := below_on hcur hx; clear hx)
      | (go_at_call 29; with_reducible refine Calls.mono (hN.out _ (below_on hbw hcur)) ?_; rintro e wC ⟨p3, d3, rfl, F3, hx⟩; replace F3 := F3.lower (b' := W.heap.size) hcur.size; replace F1 := F1.below hx; replace F2 := F2.below hx; replace hcur := below_on hcur hx; clear hx)
      | (go_at_call 30; with_reducible refine Calls.mono (hE.out _ (below_on hbw hcur)) ?_; rintro e wD ⟨p4, d4, rfl, F4, hx⟩; replace F4 := F4.lower (b' := W.heap.size) hcur.size; replace F1 := F1.below hx; replace F2 := F2.below hx; replace F3 := F3.below hx; replace hcur := below_on hcur hx; clear hx; obtain ⟨-, ⟨z0, z1, z2, z3⟩, zf, -⟩ := hT4.out _ hcur; have zf0 := zf 0; have zf1 := zf 1; have zf2 := zf 2; have zf3 := zf 3; clear zf))
  go_wp2_with fail
  obtain ⟨s0, s1, s2, s3⟩ := put4 wD (w.heap.size + 1) (.slice p1 n1 d1) (.slice p2 n2 d2) (.slice p3 n3 d3) (.slice p4 n4 d4) _ _ _ _ z0 z1 z2 z3
  have hO := only4 wD (w.heap.size + 1) (.slice p1 n1 d1) (.slice p2 n2 d2) (.slice p3 n3 d3) (.slice p4 n4 d4)
  have hbl := (below_on hbw hcur).trans (hO.below (below_on hbw hcur).size (fun k hk => by omega))
  obtain ⟨x, hx1, hx2⟩ := out_of (F1.only hO (by omega)) (F2.only hO (by omega)) (F3.only hO (by omega)) (F4.only hO (by omega)) b3 b4
  generalize (((wD.setCell ⟨w.heap.size + 1, 0, none⟩ (.slice p1 n1 d1)).setCell ⟨w.heap.size + 1, 1, none⟩ (.slice p2 n2 d2)).setCell ⟨w.heap.size + 1, 2, none⟩ (.slice p3 n3 d3)).setCell ⟨w.heap.size + 1, 3, none⟩ (.slice p4 n4 d4) = W2 at s0 s1 s2 s3 hbl hx1 ⊢
  refine bodyPost_ret (by simp [results, Tryd.results13, go_sem, s0, s1, s2, s3]; try rfl) rfl ?_
  exact ⟨⟨p1, d1, p2, d2, p3, d3, p4, d4, x, rfl, hx1, hx2⟩, hbl⟩
end Go.Proofs.YtmioohbailhppaaDoor
