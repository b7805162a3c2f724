/-
  Same: queries of the same content are told to be the same.
  A text with blanks more ahead of some words: its words are the same, but for their places.
  A text with blanks more: what the law makes of it.
-/
import Derived.Test.YtefenbonjepjgaaGreatDoorSap
import Derived.BigQuiet
import Derived.Lib.QuietBelow
import Derived.Test.YtefenbonjepjgaaGreatDoorEra
import Derived.Test.YtefenbonjepjgaaGreatDoorTbs
namespace Go.Proofs.YtefenbonjepjgaaGreatDoor
open Go.ChangeShapes Go.WideShapes Go.ChangeAt Go.RowKit Go.Sort
set_option linter.unusedSimpArgs false
set_option linter.unusedVariables false

set_option maxRecDepth 100000 in
set_option maxHeartbeats 4000000 in
theorem sameQ_yes (x : Qy) (b b' : Nat) (v v' : Value) (w : World) (h1 : IsQ b x v w) (h2 : IsQ b' x v' w) :
    Calls Tryz.prog 12 #[v, v'] w fun e w' => e = .returned (.bool true) ∧ Below w.heap.size w w' := by
  obtain ⟨v0, v1, v3, v4, rfl, hp, he, hi, hk⟩ := h1
  obtain ⟨u0, u1, u3, u4, rfl, hp', he', hi', hk'⟩ := h2
  obtain ⟨p0, pc0, rfl⟩ := hp.val
  obtain ⟨q0, qc0, rfl⟩ := hp'.val
  obtain ⟨p1, pc1, rfl, n1, k1⟩ := he.read2
  obtain ⟨q1, qc1, rfl, _, m1⟩ := he'.read2
  obtain ⟨p3, pc3, rfl, n3, k3⟩ := hi.read2
  obtain ⟨q3, qc3, rfl, _, m3⟩ := hi'.read2
  obtain ⟨p4, pc4, rfl, n4, k4⟩ := hk.read2
  obtain ⟨q4, qc4, rfl, _, m4⟩ := hk'.read2
  have hv := fun (w' : World) (hb : Below w.heap.size w w') => sameP_yes x.pats _ _ _ _ w' (hp.below hb) (hp'.below hb)
  clear hp hp' he he' hi hi' hk hk'
  unfold maxLen at n1 n3 n4
  have hbW : Below w.heap.size w ((w.alloc (.cells #[.slice p0 x.pats.length pc0, .slice p1 x.where'.length pc1, .bool x.dist, .slice p3 x.items.length pc3, .slice p4 x.keys.length pc4, .int .i64 x.lim] 28)).alloc (.cells #[.slice q0 x.pats.length qc0, .slice q1 x.where'.length qc1, .bool x.dist, .slice q3 x.items.length qc3, .slice q4 x.keys.length qc4, .int .i64 x.lim] 28)) := by go_grown
  have B1 := (Blk.new w [.slice p0 x.pats.length pc0, .slice p1 x.where'.length pc1, .bool x.dist, .slice p3 x.items.length pc3, .slice p4 x.keys.length pc4, .int .i64 x.lim] 28).grown (below_new _ (.cells #[.slice q0 x.pats.length qc0, .slice q1 x.where'.length qc1, .bool x.dist, .slice q3 x.items.length qc3, .slice q4 x.keys.length qc4, .int .i64 x.lim] 28))
  have B2 := Blk.new (w.alloc (.cells #[.slice p0 x.pats.length pc0, .slice p1 x.where'.length pc1, .bool x.dist, .slice p3 x.items.length pc3, .slice p4 x.keys.length pc4, .int .i64 x.lim] 28)) [.slice q0 x.pats.length qc0, .slice q1 x.where'.length qc1, .bool x.dist, .slice q3 x.items.length qc3, .slice q4 x.keys.length qc4, .int .i64 x.lim] 28
  have e1 : (w.alloc (.cells #[.slice p0 x.pats.length pc0, .slice p1 x.where'.length pc1, .bool x.dist, .slice p3 x.items.length pc3, .slice p4 x.keys.length pc4, .int .i64 x.lim] 28)).heap.size = w.heap.size + 1 := by simp
  rw [e1] at B2
  replace k1 : Hid _ := k1
  replace m1 : Hid _ := m1
  replace k3 : Hid _ := k3
  replace m3 : Hid _ := m3
  replace k4 : Hid _ := k4
  replace m4 : Hid _ := m4
  replace hv : Hid _ := hv
  go_enter Tryz.func12, Tryz.ntmps12
  go_upto_region 1 with fail
  have hW : ∃ W, W = ((w.alloc (.cells #[.slice p0 x.pats.length pc0, .slice p1 x.where'.length pc1, .bool x.dist, .slice p3 x.items.length pc3, .slice p4 x.keys.length pc4, .int .i64 x.lim] 28)).alloc (.cells #[.slice q0 x.pats.length qc0, .slice q1 x.where'.length qc1, .bool x.dist, .slice q3 x.items.length qc3, .slice q4 x.keys.length qc4, .int .i64 x.lim] 28)) := ⟨_, rfl⟩
  obtain ⟨W, hW⟩ := hW
  rw [← hW] at hbW B1 B2 ⊢
  have X0 : W.cell? ⟨w.heap.size, 0, none⟩ = some (.slice p0 x.pats.length pc0) := B1.c 0 (by simp)
  have X1 : W.cell? ⟨w.heap.size, 1, none⟩ = some (.slice p1 x.where'.length pc1) := B1.c 1 (by simp)
  have X2 : W.cell? ⟨w.heap.size, 2, none⟩ = some (.bool x.dist) := B1.c 2 (by simp)
  have X3 : W.cell? ⟨w.heap.size, 3, none⟩ = some (.slice p3 x.items.length pc3) := B1.c 3 (by simp)
  have X4 : W.cell? ⟨w.heap.size, 4, none⟩ = some (.slice p4 x.keys.length pc4) := B1.c 4 (by simp)
  have X5 : W.cell? ⟨w.heap.size, 5, none⟩ = some (.int .i64 x.lim) := B1.c 5 (by simp)
  have Y0 : W.cell? ⟨w.heap.size + 1, 0, none⟩ = some (.slice q0 x.pats.length qc0) := B2.c 0 (by simp)
  have Y1 : W.cell? ⟨w.heap.size + 1, 1, none⟩ = some (.slice q1 x.where'.length qc1) := B2.c 1 (by simp)
  have Y2 : W.cell? ⟨w.heap.size + 1, 2, none⟩ = some (.bool x.dist) := B2.c 2 (by simp)
  have Y3 : W.cell? ⟨w.heap.size + 1, 3, none⟩ = some (.slice q3 x.items.length qc3) := B2.c 3 (by simp)
  have Y4 : W.cell? ⟨w.heap.size + 1, 4, none⟩ = some (.slice q4 x.keys.length qc4) := B2.c 4 (by simp)
  have Y5 : W.cell? ⟨w.heap.size + 1, 5, none⟩ = some (.int .i64 x.lim) := B2.c 5 (by simp)
  clear hW B1 B2 e1
  generalize x.pats.length = l0 at *
  generalize hl1 : x.where'.length = l1 at *
  generalize hl3 : x.items.length = l3 at *
  generalize hl4 : x.keys.length = l4 at *
  generalize x.dist = ds at *
  generalize x.lim = lm at *
  go_upto_region 2 with ((with_reducible refine Calls.mono (hv.out _ hbW) ?_); rintro e w2 ⟨rfl, hb2⟩)
  clear hv
  have cx0 := (hb2.cell (p := ⟨w.heap.size, 0, none⟩) (World.block_lt_of_cell? W _ X0)).trans X0
  have cy0 := (hb2.cell (p := ⟨w.heap.size + 1, 0, none⟩) (World.block_lt_of_cell? W _ Y0)).trans Y0
  have cx1 := (hb2.cell (p := ⟨w.heap.size, 1, none⟩) (World.block_lt_of_cell? W _ X1)).trans X1
  have cy1 := (hb2.cell (p := ⟨w.heap.size + 1, 1, none⟩) (World.block_lt_of_cell? W _ Y1)).trans Y1
  have cx2 := (hb2.cell (p := ⟨w.heap.size, 2, none⟩) (World.block_lt_of_cell? W _ X2)).trans X2
  have cy2 := (hb2.cell (p := ⟨w.heap.size + 1, 2, none⟩) (World.block_lt_of_cell? W _ Y2)).trans Y2
  have cx3 := (hb2.cell (p := ⟨w.heap.size, 3, none⟩) (World.block_lt_of_cell? W _ X3)).trans X3
  have cy3 := (hb2.cell (p := ⟨w.heap.size + 1, 3, none⟩) (World.block_lt_of_cell? W _ Y3)).trans Y3
  have cx4 := (hb2.cell (p := ⟨w.heap.size, 4, none⟩) (World.block_lt_of_cell? W _ X4)).trans X4
  have cy4 := (hb2.cell (p := ⟨w.heap.size + 1, 4, none⟩) (World.block_lt_of_cell? W _ Y4)).trans Y4
  have cx5 := (hb2.cell (p := ⟨w.heap.size, 5, none⟩) (World.block_lt_of_cell? W _ X5)).trans X5
  have cy5 := (hb2.cell (p := ⟨w.heap.size + 1, 5, none⟩) (World.block_lt_of_cell? W _ Y5)).trans Y5
  go_wp2_with fail
  clear cx0 cy0 cx1 cy1 cx2 cy2 cx3 cy3 cx4 cy4 cx5 cy5
  go_loopw [6] (fun i wr => Below W.heap.size W wr ∧ ∃ k : Nat, k ≤ l1 ∧ i = .int .i64 k) (fun i _ => l1 - (intOf i).toNat)
  case atStart => exact ⟨hb2, 0, by omega, rfl⟩
  case round =>
    obtain ⟨hb6, k, hk, rfl⟩ := hrel
    have cx1 := (hb6.cell (p := ⟨w.heap.size, 1, none⟩) (World.block_lt_of_cell? W _ X1)).trans X1
    have cy1 := (hb6.cell (p := ⟨w.heap.size + 1, 1, none⟩) (World.block_lt_of_cell? W _ Y1)).trans Y1
    by_cases hkl : k < l1
    · obtain ⟨z, hz⟩ : ∃ z, x.where'[k]? = some z := ⟨_, List.getElem?_eq_getElem (by omega)⟩
      obtain ⟨g, o, rfl, cs, ⟨sp, sn, sc, rfl, hx⟩, kc⟩ := k1.out k z hz
      obtain ⟨g', o', rfl, cs', ⟨sp', sn', sc', rfl, hx'⟩, kc'⟩ := m1.out k z hz
      have hkn : (k : Int) < (l1 : Int) := by omega
      have Z0 : W.cell? ⟨g, o + k * 9, none⟩ = some (.int .i64 (opE z)) := (hbW.cell (p := ⟨g, o + k * 9, none⟩) (World.block_lt_of_cell? w _ (kc 0 _ rfl))).trans (kc 0 _ rfl)
      have Z1 : W.cell? ⟨g, o + k * 9 + 1, none⟩ = some (.slice sp sn sc) := (hbW.cell (p := ⟨g, o + k * 9 + 1, none⟩) (World.block_lt_of_cell? w _ (kc 1 _ rfl))).trans (kc 1 _ rfl)
      have Z2 : W.cell? ⟨g, o + k * 9 + 2, none⟩ = some (.string (txt (nmE z))) := (hbW.cell (p := ⟨g, o + k * 9 + 2, none⟩) (World.block_lt_of_cell? w _ (kc 2 _ rfl))).trans (kc 2 _ rfl)
      have Z3 : W.cell? ⟨g, o + k * 9 + 3, none⟩ = some (.string (txt (prE z))) := (hbW.cell (p := ⟨g, o + k * 9 + 3, none⟩) (World.block_lt_of_cell? w _ (kc 3 _ rfl))).trans (kc 3 _ rfl)
      have Z4 : W.cell? ⟨g, o + k * 9 + 4, none⟩ = some (.int .i64 (kE z)) := (hbW.cell (p := ⟨g, o + k * 9 + 4, none⟩) (World.block_lt_of_cell? w _ (kc 4 _ rfl))).trans (kc 4 _ rfl)
      have Z5 : W.cell? ⟨g, o + k * 9 + 5, none⟩ = some (.bool (bE z)) := (hbW.cell (p := ⟨g, o + k * 9 + 5, none⟩) (World.block_lt_of_cell? w _ (kc 5 _ rfl))).trans (kc 5 _ rfl)
      have Z6 : W.cell? ⟨g, o + k * 9 + 6, none⟩ = some (.int .i64 (nE z)) := (hbW.cell (p := ⟨g, o + k * 9 + 6, none⟩) (World.block_lt_of_cell? w _ (kc 6 _ rfl))).trans (kc 6 _ rfl)
      have Z7 : W.cell? ⟨g, o + k * 9 + 7, none⟩ = some (.string (txt (tE z))) := (hbW.cell (p := ⟨g, o + k * 9 + 7, none⟩) (World.block_lt_of_cell? w _ (kc 7 _ rfl))).trans (kc 7 _ rfl)
      have Z8 : W.cell? ⟨g, o + k * 9 + 8, none⟩ = some (.slice none 0 0) := (hbW.cell (p := ⟨g, o + k * 9 + 8, none⟩) (World.block_lt_of_cell? w _ (kc 8 _ rfl))).trans (kc 8 _ rfl)
      have V0 : W.cell? ⟨g', o' + k * 9, none⟩ = some (.int .i64 (opE z)) := (hbW.cell (p := ⟨g', o' + k * 9, none⟩) (World.block_lt_of_cell? w _ (kc' 0 _ rfl))).trans (kc' 0 _ rfl)
      have V1 : W.cell? ⟨g', o' + k * 9 + 1, none⟩ = some (.slice sp' sn' sc') := (hbW.cell (p := ⟨g', o' + k * 9 + 1, none⟩) (World.block_lt_of_cell? w _ (kc' 1 _ rfl))).trans (kc' 1 _ rfl)
      have V2 : W.cell? ⟨g', o' + k * 9 + 2, none⟩ = some (.string (txt (nmE z))) := (hbW.cell (p := ⟨g', o' + k * 9 + 2, none⟩) (World.block_lt_of_cell? w _ (kc' 2 _ rfl))).trans (kc' 2 _ rfl)
      have V3 : W.cell? ⟨g', o' + k * 9 + 3, none⟩ = some (.string (txt (prE z))) := (hbW.cell (p := ⟨g', o' + k * 9 + 3, none⟩) (World.block_lt_of_cell? w _ (kc' 3 _ rfl))).trans (kc' 3 _ rfl)
      have V4 : W.cell? ⟨g', o' + k * 9 + 4, none⟩ = some (.int .i64 (kE z)) := (hbW.cell (p := ⟨g', o' + k * 9 + 4, none⟩) (World.block_lt_of_cell? w _ (kc' 4 _ rfl))).trans (kc' 4 _ rfl)
      have V5 : W.cell? ⟨g', o' + k * 9 + 5, none⟩ = some (.bool (bE z)) := (hbW.cell (p := ⟨g', o' + k * 9 + 5, none⟩) (World.block_lt_of_cell? w _ (kc' 5 _ rfl))).trans (kc' 5 _ rfl)
      have V6 : W.cell? ⟨g', o' + k * 9 + 6, none⟩ = some (.int .i64 (nE z)) := (hbW.cell (p := ⟨g', o' + k * 9 + 6, none⟩) (World.block_lt_of_cell? w _ (kc' 6 _ rfl))).trans (kc' 6 _ rfl)
      have V7 : W.cell? ⟨g', o' + k * 9 + 7, none⟩ = some (.string (txt (tE z))) := (hbW.cell (p := ⟨g', o' + k * 9 + 7, none⟩) (World.block_lt_of_cell? w _ (kc' 7 _ rfl))).trans (kc' 7 _ rfl)
      have V8 : W.cell? ⟨g', o' + k * 9 + 8, none⟩ = some (.slice none 0 0) := (hbW.cell (p := ⟨g', o' + k * 9 + 8, none⟩) (World.block_lt_of_cell? w _ (kc' 8 _ rfl))).trans (kc' 8 _ rfl)
      have cS : ∀ d os, Calls Tryz.prog 15 #[.agg #[.int .i64 (opE z), .slice sp sn sc, .string (txt (nmE z)), .string (txt (prE z)), .int .i64 (kE z), .bool (bE z), .int .i64 (nE z), .string (txt (tE z)), .slice none 0 0], .agg #[.int .i64 (opE z), .slice sp' sn' sc', .string (txt (nmE z)), .string (txt (prE z)), .int .i64 (kE z), .bool (bE z), .int .i64 (nE z), .string (txt (tE z)), .slice none 0 0]] (grow (redrawn wr d) os) fun e w'' => e = .returned (.bool true) ∧ ∃ p : Regrown, w'' = grow (redrawn wr p.d) p.os := fun d os => Calls.regrown_of (sameE_yes z _ _ _ _ _ _ _ _ _ (hx.keep (below_on (below_on hbW hb6) (below_regrown wr d os))) (hx'.keep (below_on (below_on hbW hb6) (below_regrown wr d os))))
      replace cS : Hid _ := cS
      go_wp2_with fail
      have fx1 := cell_regrown ((hb6.cell (p := ⟨w.heap.size, 1, none⟩) (World.block_lt_of_cell? W _ X1)).trans X1)
      have fy1 := cell_regrown ((hb6.cell (p := ⟨w.heap.size + 1, 1, none⟩) (World.block_lt_of_cell? W _ Y1)).trans Y1)
      have fz0 := cell_regrown ((hb6.cell (p := ⟨g, o + k * 9, none⟩) (World.block_lt_of_cell? W _ Z0)).trans Z0)
      have fz1 := cell_regrown ((hb6.cell (p := ⟨g, o + k * 9 + 1, none⟩) (World.block_lt_of_cell? W _ Z1)).trans Z1)
      have fz2 := cell_regrown ((hb6.cell (p := ⟨g, o + k * 9 + 2, none⟩) (World.block_lt_of_cell? W _ Z2)).trans Z2)
      have fz3 := cell_regrown ((hb6.cell (p := ⟨g, o + k * 9 + 3, none⟩) (World.block_lt_of_cell? W _ Z3)).trans Z3)
      have fz4 := cell_regrown ((hb6.cell (p := ⟨g, o + k * 9 + 4, none⟩) (World.block_lt_of_cell? W _ Z4)).trans Z4)
      have fz5 := cell_regrown ((hb6.cell (p := ⟨g, o + k * 9 + 5, none⟩) (World.block_lt_of_cell? W _ Z5)).trans Z5)
      have fz6 := cell_regrown ((hb6.cell (p := ⟨g, o + k * 9 + 6, none⟩) (World.block_lt_of_cell? W _ Z6)).trans Z6)
      have fz7 := cell_regrown ((hb6.cell (p := ⟨g, o + k * 9 + 7, none⟩) (World.block_lt_of_cell? W _ Z7)).trans Z7)
      have fz8 := cell_regrown ((hb6.cell (p := ⟨g, o + k * 9 + 8, none⟩) (World.block_lt_of_cell? W _ Z8)).trans Z8)
      have fv0 := cell_regrown ((hb6.cell (p := ⟨g', o' + k * 9, none⟩) (World.block_lt_of_cell? W _ V0)).trans V0)
      have fv1 := cell_regrown ((hb6.cell (p := ⟨g', o' + k * 9 + 1, none⟩) (World.block_lt_of_cell? W _ V1)).trans V1)
      have fv2 := cell_regrown ((hb6.cell (p := ⟨g', o' + k * 9 + 2, none⟩) (World.block_lt_of_cell? W _ V2)).trans V2)
      have fv3 := cell_regrown ((hb6.cell (p := ⟨g', o' + k * 9 + 3, none⟩) (World.block_lt_of_cell? W _ V3)).trans V3)
      have fv4 := cell_regrown ((hb6.cell (p := ⟨g', o' + k * 9 + 4, none⟩) (World.block_lt_of_cell? W _ V4)).trans V4)
      have fv5 := cell_regrown ((hb6.cell (p := ⟨g', o' + k * 9 + 5, none⟩) (World.block_lt_of_cell? W _ V5)).trans V5)
      have fv6 := cell_regrown ((hb6.cell (p := ⟨g', o' + k * 9 + 6, none⟩) (World.block_lt_of_cell? W _ V6)).trans V6)
      have fv7 := cell_regrown ((hb6.cell (p := ⟨g', o' + k * 9 + 7, none⟩) (World.block_lt_of_cell? W _ V7)).trans V7)
      have fv8 := cell_regrown ((hb6.cell (p := ⟨g', o' + k * 9 + 8, none⟩) (World.block_lt_of_cell? W _ V8)).trans V8)
      clear cx1 cy1
      refine wp_region_quiet_below (by kernel_rfl) (by kernel_rfl) ?_
      repeat (first | go_big_quiet_step (with_reducible exact cS.out _ _) | quiet_step (with_reducible exact cS.out _ _))
      refine wpQuiet_nil ?_
      intro _ hw'
      obtain ⟨⟨dq, osq⟩, hw''⟩ := hw'
      subst hw''
      have hb5 := below_on hb6 (below_regrown wr dq osq)
      clear fx1 fy1 fz0 fv0 fz1 fv1 fz2 fv2 fz3 fv3 fz4 fv4 fz5 fv5 fz6 fv6 fz7 fv7 fz8 fv8 cS
      generalize grow (redrawn wr dq) osq = w5 at hb5 ⊢
      go_wp2_with fail
      exact ⟨⟨hb5, k + 1, by omega, rfl⟩, by show l1 - ((k : Int) + 1).toNat < l1 - (k : Int).toNat; omega⟩
    · go_wp2_with fail
      clear cx1 cy1
      go_loopw [8] (fun i wr => Below W.heap.size W wr ∧ ∃ k : Nat, k ≤ l3 ∧ i = .int .i64 k) (fun i _ => l3 - (intOf i).toNat)
      case atStart => exact ⟨hb6, 0, by omega, rfl⟩
      case round =>
        obtain ⟨hb8, k, hk, rfl⟩ := hrel
        have cx3 := (hb8.cell (p := ⟨w.heap.size, 3, none⟩) (World.block_lt_of_cell? W _ X3)).trans X3
        have cy3 := (hb8.cell (p := ⟨w.heap.size + 1, 3, none⟩) (World.block_lt_of_cell? W _ Y3)).trans Y3
        by_cases hkl : k < l3
        · obtain ⟨z, hz⟩ : ∃ z, x.items[k]? = some z := ⟨_, List.getElem?_eq_getElem (by omega)⟩
          obtain ⟨g, o, rfl, cs, ⟨sp, sn, sc, rfl, hx⟩, kc⟩ := k3.out k z hz
          obtain ⟨g', o', rfl, cs', ⟨sp', sn', sc', rfl, hx'⟩, kc'⟩ := m3.out k z hz
          have hkn : (k : Int) < (l3 : Int) := by omega
          have Z0 : W.cell? ⟨g, o + k * 10, none⟩ = some (.int .i64 (opE z.x)) := (hbW.cell (p := ⟨g, o + k * 10, none⟩) (World.block_lt_of_cell? w _ (kc 0 _ rfl))).trans (kc 0 _ rfl)
          have Z1 : W.cell? ⟨g, o + k * 10 + 1, none⟩ = some (.slice sp sn sc) := (hbW.cell (p := ⟨g, o + k * 10 + 1, none⟩) (World.block_lt_of_cell? w _ (kc 1 _ rfl))).trans (kc 1 _ rfl)
          have Z2 : W.cell? ⟨g, o + k * 10 + 2, none⟩ = some (.string (txt (nmE z.x))) := (hbW.cell (p := ⟨g, o + k * 10 + 2, none⟩) (World.block_lt_of_cell? w _ (kc 2 _ rfl))).trans (kc 2 _ rfl)
          have Z3 : W.cell? ⟨g, o + k * 10 + 3, none⟩ = some (.string (txt (prE z.x))) := (hbW.cell (p := ⟨g, o + k * 10 + 3, none⟩) (World.block_lt_of_cell? w _ (kc 3 _ rfl))).trans (kc 3 _ rfl)
          have Z4 : W.cell? ⟨g, o + k * 10 + 4, none⟩ = some (.int .i64 (kE z.x)) := (hbW.cell (p := ⟨g, o + k * 10 + 4, none⟩) (World.block_lt_of_cell? w _ (kc 4 _ rfl))).trans (kc 4 _ rfl)
          have Z5 : W.cell? ⟨g, o + k * 10 + 5, none⟩ = some (.bool (bE z.x)) := (hbW.cell (p := ⟨g, o + k * 10 + 5, none⟩) (World.block_lt_of_cell? w _ (kc 5 _ rfl))).trans (kc 5 _ rfl)
          have Z6 : W.cell? ⟨g, o + k * 10 + 6, none⟩ = some (.int .i64 (nE z.x)) := (hbW.cell (p := ⟨g, o + k * 10 + 6, none⟩) (World.block_lt_of_cell? w _ (kc 6 _ rfl))).trans (kc 6 _ rfl)
          have Z7 : W.cell? ⟨g, o + k * 10 + 7, none⟩ = some (.string (txt (tE z.x))) := (hbW.cell (p := ⟨g, o + k * 10 + 7, none⟩) (World.block_lt_of_cell? w _ (kc 7 _ rfl))).trans (kc 7 _ rfl)
          have Z8 : W.cell? ⟨g, o + k * 10 + 8, none⟩ = some (.slice none 0 0) := (hbW.cell (p := ⟨g, o + k * 10 + 8, none⟩) (World.block_lt_of_cell? w _ (kc 8 _ rfl))).trans (kc 8 _ rfl)
          have Z9 : W.cell? ⟨g, o + k * 10 + 9, none⟩ = some (.string (txt z.n)) := (hbW.cell (p := ⟨g, o + k * 10 + 9, none⟩) (World.block_lt_of_cell? w _ (kc 9 _ rfl))).trans (kc 9 _ rfl)
          have V0 : W.cell? ⟨g', o' + k * 10, none⟩ = some (.int .i64 (opE z.x)) := (hbW.cell (p := ⟨g', o' + k * 10, none⟩) (World.block_lt_of_cell? w _ (kc' 0 _ rfl))).trans (kc' 0 _ rfl)
          have V1 : W.cell? ⟨g', o' + k * 10 + 1, none⟩ = some (.slice sp' sn' sc') := (hbW.cell (p := ⟨g', o' + k * 10 + 1, none⟩) (World.block_lt_of_cell? w _ (kc' 1 _ rfl))).trans (kc' 1 _ rfl)
          have V2 : W.cell? ⟨g', o' + k * 10 + 2, none⟩ = some (.string (txt (nmE z.x))) := (hbW.cell (p := ⟨g', o' + k * 10 + 2, none⟩) (World.block_lt_of_cell? w _ (kc' 2 _ rfl))).trans (kc' 2 _ rfl)
          have V3 : W.cell? ⟨g', o' + k * 10 + 3, none⟩ = some (.string (txt (prE z.x))) := (hbW.cell (p := ⟨g', o' + k * 10 + 3, none⟩) (World.block_lt_of_cell? w _ (kc' 3 _ rfl))).trans (kc' 3 _ rfl)
          have V4 : W.cell? ⟨g', o' + k * 10 + 4, none⟩ = some (.int .i64 (kE z.x)) := (hbW.cell (p := ⟨g', o' + k * 10 + 4, none⟩) (World.block_lt_of_cell? w _ (kc' 4 _ rfl))).trans (kc' 4 _ rfl)
          have V5 : W.cell? ⟨g', o' + k * 10 + 5, none⟩ = some (.bool (bE z.x)) := (hbW.cell (p := ⟨g', o' + k * 10 + 5, none⟩) (World.block_lt_of_cell? w _ (kc' 5 _ rfl))).trans (kc' 5 _ rfl)
          have V6 : W.cell? ⟨g', o' + k * 10 + 6, none⟩ = some (.int .i64 (nE z.x)) := (hbW.cell (p := ⟨g', o' + k * 10 + 6, none⟩) (World.block_lt_of_cell? w _ (kc' 6 _ rfl))).trans (kc' 6 _ rfl)
          have V7 : W.cell? ⟨g', o' + k * 10 + 7, none⟩ = some (.string (txt (tE z.x))) := (hbW.cell (p := ⟨g', o' + k * 10 + 7, none⟩) (World.block_lt_of_cell? w _ (kc' 7 _ rfl))).trans (kc' 7 _ rfl)
          have V8 : W.cell? ⟨g', o' + k * 10 + 8, none⟩ = some (.slice none 0 0) := (hbW.cell (p := ⟨g', o' + k * 10 + 8, none⟩) (World.block_lt_of_cell? w _ (kc' 8 _ rfl))).trans (kc' 8 _ rfl)
          have V9 : W.cell? ⟨g', o' + k * 10 + 9, none⟩ = some (.string (txt z.n)) := (hbW.cell (p := ⟨g', o' + k * 10 + 9, none⟩) (World.block_lt_of_cell? w _ (kc' 9 _ rfl))).trans (kc' 9 _ rfl)
          have cS : ∀ d os, Calls Tryz.prog 15 #[.agg #[.int .i64 (opE z.x), .slice sp sn sc, .string (txt (nmE z.x)), .string (txt (prE z.x)), .int .i64 (kE z.x), .bool (bE z.x), .int .i64 (nE z.x), .string (txt (tE z.x)), .slice none 0 0], .agg #[.int .i64 (opE z.x), .slice sp' sn' sc', .string (txt (nmE z.x)), .string (txt (prE z.x)), .int .i64 (kE z.x), .bool (bE z.x), .int .i64 (nE z.x), .string (txt (tE z.x)), .slice none 0 0]] (grow (redrawn wr d) os) fun e w'' => e = .returned (.bool true) ∧ ∃ p : Regrown, w'' = grow (redrawn wr p.d) p.os := fun d os => Calls.regrown_of (sameE_yes z.x _ _ _ _ _ _ _ _ _ (hx.keep (below_on (below_on hbW hb8) (below_regrown wr d os))) (hx'.keep (below_on (below_on hbW hb8) (below_regrown wr d os))))
          replace cS : Hid _ := cS
          go_wp2_with fail
          have fx3 := cell_regrown ((hb8.cell (p := ⟨w.heap.size, 3, none⟩) (World.block_lt_of_cell? W _ X3)).trans X3)
          have fy3 := cell_regrown ((hb8.cell (p := ⟨w.heap.size + 1, 3, none⟩) (World.block_lt_of_cell? W _ Y3)).trans Y3)
          have fz0 := cell_regrown ((hb8.cell (p := ⟨g, o + k * 10, none⟩) (World.block_lt_of_cell? W _ Z0)).trans Z0)
          have fz1 := cell_regrown ((hb8.cell (p := ⟨g, o + k * 10 + 1, none⟩) (World.block_lt_of_cell? W _ Z1)).trans Z1)
          have fz2 := cell_regrown ((hb8.cell (p := ⟨g, o + k * 10 + 2, none⟩) (World.block_lt_of_cell? W _ Z2)).trans Z2)
          have fz3 := cell_regrown ((hb8.cell (p := ⟨g, o + k * 10 + 3, none⟩) (World.block_lt_of_cell? W _ Z3)).trans Z3)
          have fz4 := cell_regrown ((hb8.cell (p := ⟨g, o + k * 10 + 4, none⟩) (World.block_lt_of_cell? W _ Z4)).trans Z4)
          have fz5 := cell_regrown ((hb8.cell (p := ⟨g, o + k * 10 + 5, none⟩) (World.block_lt_of_cell? W _ Z5)).trans Z5)
          have fz6 := cell_regrown ((hb8.cell (p := ⟨g, o + k * 10 + 6, none⟩) (World.block_lt_of_cell? W _ Z6)).trans Z6)
          have fz7 := cell_regrown ((hb8.cell (p := ⟨g, o + k * 10 + 7, none⟩) (World.block_lt_of_cell? W _ Z7)).trans Z7)
          have fz8 := cell_regrown ((hb8.cell (p := ⟨g, o + k * 10 + 8, none⟩) (World.block_lt_of_cell? W _ Z8)).trans Z8)
          have fz9 := cell_regrown ((hb8.cell (p := ⟨g, o + k * 10 + 9, none⟩) (World.block_lt_of_cell? W _ Z9)).trans Z9)
          have fv0 := cell_regrown ((hb8.cell (p := ⟨g', o' + k * 10, none⟩) (World.block_lt_of_cell? W _ V0)).trans V0)
          have fv1 := cell_regrown ((hb8.cell (p := ⟨g', o' + k * 10 + 1, none⟩) (World.block_lt_of_cell? W _ V1)).trans V1)
          have fv2 := cell_regrown ((hb8.cell (p := ⟨g', o' + k * 10 + 2, none⟩) (World.block_lt_of_cell? W _ V2)).trans V2)
          have fv3 := cell_regrown ((hb8.cell (p := ⟨g', o' + k * 10 + 3, none⟩) (World.block_lt_of_cell? W _ V3)).trans V3)
          have fv4 := cell_regrown ((hb8.cell (p := ⟨g', o' + k * 10 + 4, none⟩) (World.block_lt_of_cell? W _ V4)).trans V4)
          have fv5 := cell_regrown ((hb8.cell (p := ⟨g', o' + k * 10 + 5, none⟩) (World.block_lt_of_cell? W _ V5)).trans V5)
          have fv6 := cell_regrown ((hb8.cell (p := ⟨g', o' + k * 10 + 6, none⟩) (World.block_lt_of_cell? W _ V6)).trans V6)
          have fv7 := cell_regrown ((hb8.cell (p := ⟨g', o' + k * 10 + 7, none⟩) (World.block_lt_of_cell? W _ V7)).trans V7)
          have fv8 := cell_regrown ((hb8.cell (p := ⟨g', o' + k * 10 + 8, none⟩) (World.block_lt_of_cell? W _ V8)).trans V8)
          have fv9 := cell_regrown ((hb8.cell (p := ⟨g', o' + k * 10 + 9, none⟩) (World.block_lt_of_cell? W _ V9)).trans V9)
          clear cx3 cy3
          refine wp_region_quiet_below (by kernel_rfl) (by kernel_rfl) ?_
          repeat (first | go_big_quiet_step (with_reducible exact cS.out _ _) | quiet_step (with_reducible exact cS.out _ _))
          refine wpQuiet_nil ?_
          intro _ hw'
          obtain ⟨⟨dq, osq⟩, hw''⟩ := hw'
          subst hw''
          have hb5 := below_on hb8 (below_regrown wr dq osq)
          clear fx3 fy3 fz0 fv0 fz1 fv1 fz2 fv2 fz3 fv3 fz4 fv4 fz5 fv5 fz6 fv6 fz7 fv7 fz8 fv8 fz9 fv9 cS
          generalize grow (redrawn wr dq) osq = w5 at hb5 ⊢
          have cx3 := (hb5.cell (p := ⟨w.heap.size, 3, none⟩) (World.block_lt_of_cell? W _ X3)).trans X3
          have cy3 := (hb5.cell (p := ⟨w.heap.size + 1, 3, none⟩) (World.block_lt_of_cell? W _ Y3)).trans Y3
          go_wp2_with fail
          have fx3 := cell_regrown ((hb5.cell (p := ⟨w.heap.size, 3, none⟩) (World.block_lt_of_cell? W _ X3)).trans X3)
          have fy3 := cell_regrown ((hb5.cell (p := ⟨w.heap.size + 1, 3, none⟩) (World.block_lt_of_cell? W _ Y3)).trans Y3)
          have fz9 := cell_regrown ((hb5.cell (p := ⟨g, o + k * 10 + 9, none⟩) (World.block_lt_of_cell? W _ Z9)).trans Z9)
          have fv9 := cell_regrown ((hb5.cell (p := ⟨g', o' + k * 10 + 9, none⟩) (World.block_lt_of_cell? W _ V9)).trans V9)
          clear cx3 cy3
          refine wp_region_quiet_below (by kernel_rfl) (by kernel_rfl) ?_
          repeat (first | go_big_quiet_step (fail) | quiet_step (fail))
          refine wpQuiet_nil ?_
          intro _ hw'
          obtain ⟨⟨dq, osq⟩, hw''⟩ := hw'
          subst hw''
          have hb6 := below_on hb5 (below_regrown w5 dq osq)
          clear fx3 fy3 fz9 fv9
          generalize grow (redrawn w5 dq) osq = w6 at hb6 ⊢
          go_wp2_with fail
          exact ⟨⟨hb6, k + 1, by omega, rfl⟩, by show l3 - ((k : Int) + 1).toNat < l3 - (k : Int).toNat; omega⟩
        · go_wp2_with fail
          clear cx3 cy3
          go_loopw [10] (fun i wr => Below W.heap.size W wr ∧ ∃ k : Nat, k ≤ l4 ∧ i = .int .i64 k) (fun i _ => l4 - (intOf i).toNat)
          case atStart => exact ⟨hb8, 0, by omega, rfl⟩
          case round =>
            obtain ⟨hb10, k, hk, rfl⟩ := hrel
            have cx4 := (hb10.cell (p := ⟨w.heap.size, 4, none⟩) (World.block_lt_of_cell? W _ X4)).trans X4
            have cy4 := (hb10.cell (p := ⟨w.heap.size + 1, 4, none⟩) (World.block_lt_of_cell? W _ Y4)).trans Y4
            by_cases hkl : k < l4
            · obtain ⟨z, hz⟩ : ∃ z, x.keys[k]? = some z := ⟨_, List.getElem?_eq_getElem (by omega)⟩
              obtain ⟨g, o, rfl, cs, rfl, kc⟩ := k4.out k z hz
              obtain ⟨g', o', rfl, cs', rfl, kc'⟩ := m4.out k z hz
              have hkn : (k : Int) < (l4 : Int) := by omega
              have Z0 : W.cell? ⟨g, o + k * 2, none⟩ = some (.string (txt z.n)) := (hbW.cell (p := ⟨g, o + k * 2, none⟩) (World.block_lt_of_cell? w _ (kc 0 _ rfl))).trans (kc 0 _ rfl)
              have Z1 : W.cell? ⟨g, o + k * 2 + 1, none⟩ = some (.bool z.desc) := (hbW.cell (p := ⟨g, o + k * 2 + 1, none⟩) (World.block_lt_of_cell? w _ (kc 1 _ rfl))).trans (kc 1 _ rfl)
              have V0 : W.cell? ⟨g', o' + k * 2, none⟩ = some (.string (txt z.n)) := (hbW.cell (p := ⟨g', o' + k * 2, none⟩) (World.block_lt_of_cell? w _ (kc' 0 _ rfl))).trans (kc' 0 _ rfl)
              have V1 : W.cell? ⟨g', o' + k * 2 + 1, none⟩ = some (.bool z.desc) := (hbW.cell (p := ⟨g', o' + k * 2 + 1, none⟩) (World.block_lt_of_cell? w _ (kc' 1 _ rfl))).trans (kc' 1 _ rfl)
              go_wp2_with fail
              have fx4 := cell_regrown ((hb10.cell (p := ⟨w.heap.size, 4, none⟩) (World.block_lt_of_cell? W _ X4)).trans X4)
              have fy4 := cell_regrown ((hb10.cell (p := ⟨w.heap.size + 1, 4, none⟩) (World.block_lt_of_cell? W _ Y4)).trans Y4)
              have fz0 := cell_regrown ((hb10.cell (p := ⟨g, o + k * 2, none⟩) (World.block_lt_of_cell? W _ Z0)).trans Z0)
              have fz1 := cell_regrown ((hb10.cell (p := ⟨g, o + k * 2 + 1, none⟩) (World.block_lt_of_cell? W _ Z1)).trans Z1)
              have fv0 := cell_regrown ((hb10.cell (p := ⟨g', o' + k * 2, none⟩) (World.block_lt_of_cell? W _ V0)).trans V0)
              have fv1 := cell_regrown ((hb10.cell (p := ⟨g', o' + k * 2 + 1, none⟩) (World.block_lt_of_cell? W _ V1)).trans V1)
              clear cx4 cy4
              refine wp_region_quiet_below (by kernel_rfl) (by kernel_rfl) ?_
              repeat (first | go_big_quiet_step (fail) | quiet_step (fail))
              refine wpQuiet_nil ?_
              intro _ hw'
              obtain ⟨⟨dq, osq⟩, hw''⟩ := hw'
              subst hw''
              have hb5 := below_on hb10 (below_regrown wr dq osq)
              clear fx4 fy4 fz0 fv0 fz1 fv1
              generalize grow (redrawn wr dq) osq = w5 at hb5 ⊢
              go_wp2_with fail
              exact ⟨⟨hb5, k + 1, by omega, rfl⟩, by show l4 - ((k : Int) + 1).toNat < l4 - (k : Int).toNat; omega⟩
            · go_wp2_with fail
              go_returns
              exact ⟨by simp, below_on hbW hb10⟩
end Go.Proofs.YtefenbonjepjgaaGreatDoor
namespace Go.Proofs.YtefenbonjepjgaaGreatDoor
open Go.Lib
set_option linter.unusedSimpArgs false
set_option linter.unusedVariables false

/-- Ahead of word i a blank more, where c says so. -/
def blankG (s : List UInt8) (c : Nat → Bool) : Nat → List Tk → List UInt8 → Nat → List UInt8 × Nat
  | _, [], o, f => (o, f)
  | i, t :: L, o, f => if c i = true ∧ f ≤ t.at' ∧ t.at' < s.length then blankG s c (i + 1) L (o ++ (s.take t.at').drop f ++ [32, 10]) t.at' else blankG s c (i + 1) L o f
def blankL (s : List UInt8) (c : Nat → Bool) : List UInt8 := (blankG s c 0 (lexL s).1 [] 0).1 ++ s.drop (blankG s c 0 (lexL s).1 [] 0).2
theorem mvT_two (d k : Nat) (L : List Tk) : (L.map (mvT d)).map (mvT k) = L.map (mvT (d + k)) := by
  rw [List.map_map]
  refine congrArg (fun f => L.map f) (funext fun t => ?_)
  show (⟨t.k, t.t, t.n, t.at' + d + k⟩ : Tk) = ⟨t.k, t.t, t.n, t.at' + (d + k)⟩
  rw [Nat.add_assoc]
theorem bare_mv (d : Nat) (L : List Tk) : (L.map (mvT d)).map bareT = L.map bareT := by
  rw [List.map_map]
  rfl
theorem blank_lexG (s : List UInt8) (c : Nat → Bool) (Ws : List Tk) (hW : Lxs 0 s Ws) : ∀ (L P Y : List Tk) (i : Nat) (o : List UInt8) (f d : Nat), Ws = P ++ L → o.length = f + d → f ≤ s.length → (∀ u ∈ L, f ≤ u.at') → Y.map bareT = P.map bareT → Lxs 0 (o ++ s.drop f) (Y ++ L.map (mvT d)) →
    ∃ Z, Lxs 0 ((blankG s c i L o f).1 ++ s.drop (blankG s c i L o f).2) Z ∧ Z.map bareT = Ws.map bareT
  | [], P, Y, i, o, f, d, h1, h2, h3, h4, h5, h6 => ⟨Y, by simpa [blankG] using h6, by rw [h5, h1, List.append_nil]⟩
  | t :: L, P, Y, i, o, f, d, h1, h2, h3, h4, h5, h6 => by
    have ht : Ws[P.length]? = some t := by rw [h1]; simp
    have hcut := (hW.cut P.length t ht).2.2
    rw [h1, List.drop_left] at hcut
    have hlt := (hW.ge t (List.mem_of_getElem? ht)).2
    rw [Nat.zero_add] at hlt
    have hft := h4 t (List.mem_cons_self ..)
    by_cases hc : c i = true
    · have hb : c i = true ∧ f ≤ t.at' ∧ t.at' < s.length := ⟨hc, hft, hlt⟩
      rw [blankG, if_pos hb]
      have hx : (Y ++ (t :: L).map (mvT d))[Y.length]? = some (mvT d t) := by simp
      have k := h6.cut Y.length (mvT d t) hx
      have e0 : (mvT d t).at' - 0 = o.length + (t.at' - f) := by show t.at' + d - 0 = _; omega
      have e1 : (o ++ s.drop f).take (o.length + (t.at' - f)) = o ++ (s.take t.at').drop f := by
        rw [List.take_append, List.take_of_length_le (by omega), Nat.add_sub_cancel_left, List.drop_take]
      have e2 : (o ++ s.drop f).drop (o.length + (t.at' - f)) = s.drop t.at' := by
        rw [List.drop_append, List.drop_of_length_le (by omega), Nat.add_sub_cancel_left, List.drop_drop, List.nil_append]
        congr 1
        omega
      rw [e0, e1, e2] at k
      have e3 : (o ++ (s.take t.at').drop f).length = t.at' + d := by
        rw [List.length_append, List.length_drop, List.length_take]
        omega
      have k1 := k.2.1
      have k2 := k.2.2.moved 2
      rw [List.take_left] at k1
      rw [List.drop_left, mvT_two] at k2
      have k3 : Lxs (0 + (o ++ (s.take t.at').drop f).length + 1) (10 :: s.drop t.at') ((t :: L).map (mvT (d + 2))) := by
        refine .blank _ _ _ (by simp) ?_ ?_
        · rw [decodeL_low 10 _ (by decide)]
          decide
        · rw [e3]
          show Lxs (0 + (t.at' + d) + 1 + 1) (s.drop t.at') _
          have : (mvT d t).at' + 2 = 0 + (t.at' + d) + 1 + 1 := by show t.at' + d + 2 = _; omega
          rw [← this]
          exact k2
      have k4 := k1.join k3
      refine blank_lexG s c Ws hW L (P ++ [t]) (Y ++ [mvT (d + 2) t]) (i + 1) _ t.at' (d + 2) (by rw [h1]; simp) ?_ (by omega) ?_ ?_ ?_
      · rw [List.length_append, e3]
        show t.at' + d + 2 = _
        omega
      · intro u hu
        exact (hcut.ge u (List.mem_cons_of_mem _ hu)).1
      · rw [List.map_append, List.map_append, h5]
        rfl
      · have e4 : o ++ (s.take t.at').drop f ++ [32, 10] ++ s.drop t.at' = (o ++ (s.take t.at').drop f) ++ 32 :: 10 :: s.drop t.at' := by simp
        rw [e4]
        have e5 : Y ++ [mvT (d + 2) t] ++ L.map (mvT (d + 2)) = Y ++ (t :: L).map (mvT (d + 2)) := by simp
        rw [e5]
        exact k4
    · rw [blankG, if_neg (fun h => hc h.1)]
      refine blank_lexG s c Ws hW L (P ++ [t]) (Y ++ [mvT d t]) (i + 1) o f d (by rw [h1]; simp) h2 h3 (fun u hu => h4 u (List.mem_cons_of_mem _ hu)) ?_ ?_
      · rw [List.map_append, List.map_append, h5]
        rfl
      · have e5 : Y ++ [mvT d t] ++ L.map (mvT d) = Y ++ (t :: L).map (mvT d) := by simp
        rw [e5]
        exact h6
/-- Blanks ahead of words turn nothing of what a text is read as. -/
theorem lexG_err : ∀ (n at' : Nat) (l : List UInt8) (acc : List Tk), (lexG n at' l acc).2.2 ≠ 0 → (lexG n at' l acc).1 = []
  | 0, at', l, acc, h => absurd rfl h
  | n + 1, at', l, acc, h => by
    by_cases hne : l = []
    · subst hne
      rw [lex_end] at h
      exact absurd rfl h
    · cases hbk : blankB (decodeL l).1 with
      | true =>
        rw [lex_blank _ _ _ _ hne hbk] at h ⊢
        exact lexG_err n _ _ _ h
      | false =>
        by_cases he : (wordL l).e = 0
        · rw [lex_word _ _ _ _ hne hbk he] at h ⊢
          exact lexG_err n _ _ _ h
        · rw [lex_bad _ _ _ _ hne hbk he]
theorem lex_err (l : List UInt8) (h : (lexL l).2.2 ≠ 0) : (lexL l).1 = [] := by
  unfold lexL at h ⊢
  split
  · rfl
  · rename_i hl
    rw [if_neg hl] at h
    exact lexG_err _ _ _ _ h
theorem blank_same (s : List UInt8) (c : Nat → Bool) (hz : (blankL s c).length ≤ 4096) : (parseL s).er = (parseL (blankL s c)).er ∧ (parseEL s).er = (parseEL (blankL s c)).er := by
  by_cases h : (lexL s).2.2 = 0
  · obtain ⟨hl, hW⟩ := lexL_lxs h
    obtain ⟨Z, h1, h2⟩ := blank_lexG s c (lexL s).1 hW (lexL s).1 [] [] 0 [] 0 0 rfl rfl (Nat.zero_le _) (fun _ _ => Nat.zero_le _) rfl (by
      rw [List.nil_append, List.nil_append, List.drop_zero]
      have := hW.moved 0
      exact this)
    have h3 := lxs_lexL (l := blankL s c) h1 hz
    exact parse_same h (by rw [h3]) (by rw [h3]; exact h2.symm)
  · have : blankL s c = s := by
      unfold blankL
      rw [lex_err s h]
      rfl
    rw [this]
    exact ⟨rfl, rfl⟩
end Go.Proofs.YtefenbonjepjgaaGreatDoor
namespace Go.Proofs.YtefenbonjepjgaaGreatDoor
open Go.ChangeShapes Go.WideShapes Go.ChangeAt Go.RowKit
set_option linter.unusedSimpArgs false
set_option linter.unusedVariables false

/-- Bytes that came in as a slice. -/
def BysAt (w : World) (a : Option Addr) (n : Nat) (D : Nat → Nat) : Prop := (∀ i, D i < 256) ∧ (n = 0 ∨ ∃ b o, a = some ⟨b, o, none⟩ ∧ ∀ i, i < n → w.cell? ⟨b, o + i, none⟩ = some (.int .u8 (D i)))
def oddC (n : Nat) (D : Nat → Nat) (i : Nat) : Bool := decide (i < n) && decide (D i % 2 = 1)
theorem bits_one : ∀ d : Nat, d < 256 → bits BinOp.and .u8 (d : Int) 1 = ((d % 2 : Nat) : Int) := by decide +kernel
theorem extract_list (s : ByteArray) (a b : Nat) : (s.extract a b).data.toList = (s.data.toList.take b).drop a := by
  rw [ByteArray.data_extract, Array.toList_extract, List.extract_eq_take_drop, List.drop_take]
set_option maxRecDepth 100000 in
set_option maxHeartbeats 4000000 in
theorem blank_any (s : ByteArray) (hs : s.size ≤ 140737488351232) (a : Option Addr) (n cp : Nat) (D : Nat → Nat) (hn : n ≤ maxLen) (w : World) (hT : Tabs w) (hA : BysAt w a n D) :
    Calls Tryz.prog 16 #[.string s, .slice a n cp] w fun e w' => ∃ t : ByteArray, e = .returned (.string t) ∧ t.data.toList = blankL s.data.toList (oddC n D) ∧ t.size ≤ maxLen ∧ Below w.heap.size w w' := by
  have hL := fun (_ : Unit) => Lex_at s (by unfold maxLen; omega) w hT
  have hsl : s.data.toList.length = s.size := Array.length_toList
  have hfew := lexL_few s.data.toList
  have herr : (lexL s.data.toList).2.2 ≠ 0 → (lexL s.data.toList).1.length = 0 := fun h => by rw [lex_err _ h]; rfl
  have hR : ∃ R, blankG s.data.toList (oddC n D) 0 (lexL s.data.toList).1 [] 0 = R := ⟨_, rfl⟩
  obtain ⟨R, hR⟩ := hR
  have hbl : blankL s.data.toList (oddC n D) = R.1 ++ s.data.toList.drop R.2 := by unfold blankL; rw [hR]
  rw [hbl]
  clear hbl
  generalize (lexL s.data.toList).2.1 = z at *
  generalize (lexL s.data.toList).2.2 = er at *
  generalize (lexL s.data.toList).1 = L at *
  unfold maxLen at hn
  replace hL : Hid _ := hL
  go_enter Tryz.func16, Tryz.ntmps16
  go_upto_region 2 with ((have hh := hL.out (); go_at_call 17; (with_reducible refine Calls.mono hh ?_); clear hh hL; rintro e w1 ⟨p, cap, rfl, hcap, hws, hb1⟩))
  have hW := hws w1 (fun _ _ _ => rfl)
  clear hws
  have hA1 : BysAt w1 a n D := by
    obtain ⟨h1, h2⟩ := hA
    refine ⟨h1, ?_⟩
    rcases h2 with h2 | ⟨b, o, e, h2⟩
    · exact .inl h2
    · exact .inr ⟨b, o, e, fun i hi => (hb1.cell (World.block_lt_of_cell? w _ (h2 i hi))).trans (h2 i hi)⟩
  clear hA
  replace hW : Hid _ := hW
  replace hA1 : Hid _ := hA1
  go_wp2_with fail
  go_loopw [8, 9, 10] (fun v8 v9 v10 wr => wr = w1 ∧ ∃ (o : ByteArray) (f k : Nat), v8 = .string o ∧ v9 = .int .i64 f ∧ v10 = .int .i64 k ∧ k ≤ L.length ∧ f ≤ s.size ∧ o.size ≤ f + 2 * k ∧ blankG s.data.toList (oddC n D) k (L.drop k) o.data.toList f = R) (fun _ _ v10 _ => L.length - (intOf v10).toNat)
  case atStart => exact ⟨rfl, ⟨#[]⟩, 0, 0, rfl, rfl, rfl, Nat.zero_le _, Nat.zero_le _, Nat.le_refl _, hR⟩
  case round =>
    obtain ⟨rfl, o, f, k, rfl, rfl, rfl, hk, hf, ho, hR'⟩ := hrel
    by_cases hkl : k < L.length
    · have he0 : er = 0 := by
        by_cases h : er = 0
        · exact h
        · have := herr h
          omega
      subst he0
      obtain ⟨t, ht⟩ : ∃ t, L[k]? = some t := ⟨_, List.getElem?_eq_getElem hkl⟩
      have htd : L.getD k default = t := by rw [List.getD_eq_getElem?_getD, ht]; rfl
      have hdrop : L.drop k = t :: L.drop (k + 1) := by
        rw [List.drop_eq_getElem_cons hkl]
        congr 1
        rw [List.getElem?_eq_getElem hkl] at ht
        injection ht
      rw [hdrop, blankG] at hR'
      rcases hW.out with h0 | ⟨g, og, rfl, hg, hc⟩
      · rw [h0] at hkl
        exact absurd hkl (by simp)
      obtain ⟨_, _, _, c3⟩ := hc k hkl
      rw [htd] at c3
      have hkL : (k : Int) < (L.length : Int) := by omega
      clear hc hdrop htd ht herr hR
      rw [hsl] at hR'
      by_cases h1 : k < n
      · rcases hA1.out.2 with h0 | ⟨b, ob, rfl, hcell⟩
        · omega
        have cb := hcell k h1
        have hb256 := hA1.out.1 k
        have hkn : (k : Int) < (n : Int) := by omega
        have hodd : oddC n D k = decide (D k % 2 = 1) := by unfold oddC; simp [h1]
        rw [hodd] at hR'
        clear hcell hodd
        generalize D k = dk at *
        by_cases h2 : dk % 2 = 1
        · have hand : bits BinOp.and .u8 (dk : Int) 1 = 1 := by rw [bits_one dk hb256, h2]; rfl
          by_cases h3 : f ≤ t.at'
          · by_cases h4 : t.at' < s.size
            · rw [if_pos ⟨by simp [h2], h3, h4⟩] at hR'
              go_wp2_with fail
              refine ⟨⟨trivial, _, t.at', k + 1, rfl, rfl, rfl, by omega, by omega, ?_, ?_⟩, by show L.length - ((k : Int) + 1).toNat < L.length - (k : Int).toNat; omega⟩
              · rw [ByteArray.size_append, ByteArray.size_append, ByteArray.size_extract]
                show o.size + _ + 2 ≤ _
                omega
              · rw [Joins.data_append, Joins.data_append, extract_list]
                exact hR'
            · rw [if_neg (fun h => h4 h.2.2)] at hR'
              go_wp2_with fail
              exact ⟨⟨trivial, o, f, k + 1, rfl, rfl, rfl, by omega, hf, by omega, hR'⟩, by show L.length - ((k : Int) + 1).toNat < L.length - (k : Int).toNat; omega⟩
          · rw [if_neg (fun h => h3 h.2.1)] at hR'
            go_wp2_with fail
            exact ⟨⟨trivial, o, f, k + 1, rfl, rfl, rfl, by omega, hf, by omega, hR'⟩, by show L.length - ((k : Int) + 1).toNat < L.length - (k : Int).toNat; omega⟩
        · have hand : bits BinOp.and .u8 (dk : Int) 1 = 0 := by rw [bits_one dk hb256, show dk % 2 = 0 by omega]; rfl
          rw [if_neg (fun h => h2 (by simpa using h.1))] at hR'
          go_wp2_with fail
          exact ⟨⟨trivial, o, f, k + 1, rfl, rfl, rfl, by omega, hf, by omega, hR'⟩, by show L.length - ((k : Int) + 1).toNat < L.length - (k : Int).toNat; omega⟩
      · have hodd : oddC n D k = false := by unfold oddC; simp [h1]
        rw [hodd, if_neg (fun h => by cases h.1)] at hR'
        go_wp2_with fail
        exact ⟨⟨trivial, o, f, k + 1, rfl, rfl, rfl, by omega, hf, by omega, hR'⟩, by show L.length - ((k : Int) + 1).toNat < L.length - (k : Int).toNat; omega⟩
    · have hkk : L.drop k = [] := List.drop_eq_nil_of_le (by omega)
      rw [hkk, blankG] at hR'
      go_wp2_with fail
      go_returns
      subst hR'
      refine ⟨_, rfl, ?_, ?_, hb1⟩
      · rw [Joins.data_append, extract_list, ← hsl, List.take_length]
      · rw [ByteArray.size_append, ByteArray.size_extract]
        unfold maxLen
        omega
end Go.Proofs.YtefenbonjepjgaaGreatDoor
