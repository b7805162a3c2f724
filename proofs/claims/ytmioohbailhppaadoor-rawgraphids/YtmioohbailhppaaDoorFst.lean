/-
  RawgraphFirst: its own walk.
-/
import Derived.Test.YtmioohbailhppaaDoorFst0
import Derived.Test.YtmioohbailhppaaDoorHead
import Derived.Deep.RegionHeld3
import Derived.Deep.DeepCutAuto
namespace Go.Proofs.YtmioohbailhppaaDoor
open Go.RowKit
set_option linter.unusedSimpArgs false
set_option linter.unusedVariables false

theorem own_setCell {w : World} {base : Nat} {e : TypeId} {size : Nat} {v : Value} {n : Nat} {xs : List Value} (h : w.ownsRow base e size v n xs) {M j : Nat} {u : Value} (hne : v.ownBlock ≠ some M) : (w.setCell ⟨M, j, none⟩ u).ownsRow base e size v n xs :=
  h.kept (row := some M) ⟨rfl, rfl, rfl, by simp [World.setCell], fun k hk hn => Below.heap_setCell _ _ _ _ (fun e => hn (by simp [e]))⟩ (.inr hne)
theorem cells4_new (w : World) (s1 s2 s3 s4 : Value) (t : TypeId) : (w.alloc (.cells #[s1, s2, s3, s4] t)).cell? ⟨w.heap.size, 0, none⟩ = some s1 ∧ (w.alloc (.cells #[s1, s2, s3, s4] t)).cell? ⟨w.heap.size, 1, none⟩ = some s2 ∧ (w.alloc (.cells #[s1, s2, s3, s4] t)).cell? ⟨w.heap.size, 2, none⟩ = some s3 ∧ (w.alloc (.cells #[s1, s2, s3, s4] t)).cell? ⟨w.heap.size, 3, none⟩ = some s4 := by
  refine ⟨?_, ?_, ?_, ?_⟩ <;> (simp only [World.cell?, heap_alloc_new]; simp)

set_option maxRecDepth 100000 in
set_option maxHeartbeats 8000000 in
theorem First_walk (a1 : Option Addr) (n1 c1 : Nat) (a2 : Option Addr) (n2 c2 : Nat) (a3 : Option Addr) (n3 c3 : Nat) (a4 : Option Addr) (n4 c4 : Nat) (r : RW) (x : ND) (y : ED) (w : World)
    (l1 : r.nt.length = n1) (k1 : n1 ≤ c1) (m1 : c1 ≤ maxLen) (h1 : TDsAt w a1 r.nt) (l2 : r.et.length = n2) (k2 : n2 ≤ c2) (m2 : c2 ≤ maxLen) (h2 : TDsAt w a2 r.et)
    (l3 : r.nd.length = n3) (h3 : NDsAt w a3 r.nd) (b3 : n3 * 48 ≤ 140737488351232) (z3 : a3 = none → r.nd = [] ∧ c3 = 0) (l4 : r.ed.length = n4) (h4 : EDsAt w a4 r.ed) (b4 : n4 * 64 ≤ 140737488351232) (z4 : a4 = none → r.ed = [] ∧ c4 = 0) (hT : Tabs w)
    (hx : NDok w x) (hy : EDok w y) :
    Calls Tryd.prog 6 #[.agg #[.slice a1 n1 c1, .slice a2 n2 c2, .slice a3 n3 c3, .slice a4 n4 c4], .agg #[.int .i64 x.id, .string x.lab, .slice x.p x.l x.c], .agg #[.int .i64 y.id, .string y.lab, .int .i64 y.fr, .int .i64 y.tt, .slice y.p y.l y.c]] w fun e w' => e = .returned (.bool true) ∧ Below w.heap.size w w' := by
  have hH := fun w h => head_any w h
  have hC := fun w' (hb : Below w.heap.size w w') => Check_any a1 n1 c1 a2 n2 c2 a3 n3 c3 a4 n4 c4 r w' l1 k1 m1 (h1.below hb) l2 k2 m2 (h2.below hb) l3 (by unfold maxLen; omega) (h3.below hb) l4 (by unfold maxLen; omega) (h4.below hb) (hT.below hb)
  have hE := fun w' (hb : Below w.heap.size w w') g cap (he : EDsAt w' (some ⟨g, 0, none⟩) (r.ed ++ [y])) => Check_any a1 n1 c1 a2 n2 c2 a3 n3 c3 (some ⟨g, 0, none⟩) (n4 + 1) cap (moreE r y) w' l1 k1 m1 (h1.below hb) l2 k2 m2 (h2.below hb) l3 (by unfold maxLen; omega) (h3.below hb) (by simp [moreE, l4]) (by unfold maxLen; omega) he (hT.below hb)
  have hN := fun w' (hb : Below w.heap.size w w') g cap (he : NDsAt w' (some ⟨g, 0, none⟩) (r.nd ++ [x])) => Check_any a1 n1 c1 a2 n2 c2 (some ⟨g, 0, none⟩) (n3 + 1) cap a4 n4 c4 (moreN r x) w' l1 k1 m1 (h1.below hb) l2 k2 m2 (h2.below hb) (by simp [moreN, l3]) (by unfold maxLen; omega) he l4 (by unfold maxLen; omega) (h4.below hb) (hT.below hb)
  have qE := chk_moreE r y
  have qN := chk_moreN r x
  rw [l4] at qE
  rw [l3] at qN
  generalize chk r = A at hC qE qN
  generalize chk (moreE r y) = B at hE qE
  generalize chk (moreN r x) = C at hN qN
  obtain ⟨A1, A2, A3⟩ := A
  obtain ⟨B1, B2, B3⟩ := B
  obtain ⟨C1, C2, C3⟩ := C
  simp only at hC hE hN qE qN
  have hb0 : Below w.heap.size w (((w.alloc (.cells #[.slice a1 n1 c1, .slice a2 n2 c2, .slice a3 n3 c3, .slice a4 n4 c4] 28)).alloc (.cells #[.int .i64 x.id, .string x.lab, .slice x.p x.l x.c] 44)).alloc (.cells #[.int .i64 y.id, .string y.lab, .int .i64 y.fr, .int .i64 y.tt, .slice y.p y.l y.c] 46)) := below_on (below_on (below_new _ _) (below_new _ _)) (below_new _ _)
  obtain ⟨v0, v1, v2, v3⟩ := cells4_new w (.slice a1 n1 c1) (.slice a2 n2 c2) (.slice a3 n3 c3) (.slice a4 n4 c4) 28
  replace v0 := cell_keep (.cells #[.int .i64 y.id, .string y.lab, .int .i64 y.fr, .int .i64 y.tt, .slice y.p y.l y.c] 46) (cell_keep (.cells #[.int .i64 x.id, .string x.lab, .slice x.p x.l x.c] 44) v0)
  replace v1 := cell_keep (.cells #[.int .i64 y.id, .string y.lab, .int .i64 y.fr, .int .i64 y.tt, .slice y.p y.l y.c] 46) (cell_keep (.cells #[.int .i64 x.id, .string x.lab, .slice x.p x.l x.c] 44) v1)
  replace v2 := cell_keep (.cells #[.int .i64 y.id, .string y.lab, .int .i64 y.fr, .int .i64 y.tt, .slice y.p y.l y.c] 46) (cell_keep (.cells #[.int .i64 x.id, .string x.lab, .slice x.p x.l x.c] 44) v2)
  replace v3 := cell_keep (.cells #[.int .i64 y.id, .string y.lab, .int .i64 y.fr, .int .i64 y.tt, .slice y.p y.l y.c] 46) (cell_keep (.cells #[.int .i64 x.id, .string x.lab, .slice x.p x.l x.c] 44) v3)
  have hst := fun W2 hb => FS.start w W2 (.slice a1 n1 c1) (.slice a2 n2 c2) (.slice a3 n3 c3) (.slice a4 n4 c4) x y A1 A2 hb
  replace hH : Hid _ := hH
  replace hC : Hid _ := hC
  replace hE : Hid _ := hE
  replace hN : Hid _ := hN
  replace hst : Hid _ := hst
  go_enter Tryd.func6, Tryd.ntmps6
  go_wp2_with (first
    | (go_at_call 8; refine Calls.mono (hH.out _ (hT.below hb0)) ?_; rintro e w1 ⟨rfl, hb1⟩; replace v0 := (hb1.cell (World.block_lt_of_cell? _ _ v0)).trans v0; replace v1 := (hb1.cell (World.block_lt_of_cell? _ _ v1)).trans v1; replace v2 := (hb1.cell (World.block_lt_of_cell? _ _ v2)).trans v2; replace v3 := (hb1.cell (World.block_lt_of_cell? _ _ v3)).trans v3)
    | (go_at_call 11; refine Calls.mono (hC.out _ (below_on hb0 hb1)) ?_; rintro e W2 ⟨rfl, hb2⟩; replace v0 := cell_keep (.cells #[.int .i64 A1, .int .i64 A2] 31) ((hb2.cell (World.block_lt_of_cell? _ _ v0)).trans v0); replace v1 := cell_keep (.cells #[.int .i64 A1, .int .i64 A2] 31) ((hb2.cell (World.block_lt_of_cell? _ _ v1)).trans v1); replace v2 := cell_keep (.cells #[.int .i64 A1, .int .i64 A2] 31) ((hb2.cell (World.block_lt_of_cell? _ _ v2)).trans v2); replace v3 := cell_keep (.cells #[.int .i64 A1, .int .i64 A2] 31) ((hb2.cell (World.block_lt_of_cell? _ _ v3)).trans v3)))
  have hfs := hst.out W2 (below_on hb1 hb2)
  rw [show w.heap.size + 1 + 1 = w.heap.size + 2 from rfl]
  generalize (W2.alloc (.cells #[.int .i64 A1, .int .i64 A2] 31)).alloc (.cells #[.slice a1 n1 c1, .slice a2 n2 c2, .slice a3 n3 c3, .slice a4 n4 c4] 28) = W4 at hfs ⊢
  generalize W2.heap.size + 1 = M at hfs ⊢
  generalize W2.heap.size = P at hfs ⊢
  clear hst v0 v1 v2 v3 hb0 hb1 hb2 hH
  go_cut [26] (fun v wx => ∃ g cap, FS w wx (.slice a1 n1 c1) (.slice a2 n2 c2) (.slice a3 n3 c3) (.slice a4 n4 c4) x y P M A1 A2 (.slice a1 n1 c1) (.slice a2 n2 c2) (.slice a3 n3 c3) (.slice (some ⟨g, 0, none⟩) (n4 + 1) cap) ∧ EDsAt wx (some ⟨g, 0, none⟩) (r.ed ++ [y]))
  case first =>
    obtain ⟨i0, hi0, hz0, hz1, hz2⟩ := info_parts info46
    have hF : ∀ w', Below W4.heap.size W4 w' → FS w w' (.slice a1 n1 c1) (.slice a2 n2 c2) (.slice a3 n3 c3) (.slice a4 n4 c4) x y P M A1 A2 (.slice a1 n1 c1) (.slice a2 n2 c2) (.slice a3 n3 c3) (.slice a4 n4 c4) := fun w' hb => hfs.below hb
    have hS : ∀ w', Below W4.heap.size W4 w' → w'.cell? ⟨w.heap.size, 3, none⟩ = some (.slice a4 n4 c4) ∧ w'.cell? ⟨w.heap.size + 2, 0, none⟩ = some (.int .i64 y.id) ∧ w'.cell? ⟨w.heap.size + 2, 1, none⟩ = some (.string y.lab) ∧ w'.cell? ⟨w.heap.size + 2, 2, none⟩ = some (.int .i64 y.fr) ∧ w'.cell? ⟨w.heap.size + 2, 3, none⟩ = some (.int .i64 y.tt) ∧ w'.cell? ⟨w.heap.size + 2, 4, none⟩ = some (.slice y.p y.l y.c) := fun w' hb => ⟨(hF w' hb).r3, (hF w' hb).y0, (hF w' hb).y1, (hF w' hb).y2, (hF w' hb).y3, (hF w' hb).y4⟩
    have hS3 : ∀ w' v, Below W4.heap.size W4 w' → (w'.setCell ⟨M, 3, none⟩ v).cell? ⟨w.heap.size, 3, none⟩ = some (.slice a4 n4 c4) ∧ (w'.setCell ⟨M, 3, none⟩ v).cell? ⟨w.heap.size + 2, 0, none⟩ = some (.int .i64 y.id) ∧ (w'.setCell ⟨M, 3, none⟩ v).cell? ⟨w.heap.size + 2, 1, none⟩ = some (.string y.lab) ∧ (w'.setCell ⟨M, 3, none⟩ v).cell? ⟨w.heap.size + 2, 2, none⟩ = some (.int .i64 y.fr) ∧ (w'.setCell ⟨M, 3, none⟩ v).cell? ⟨w.heap.size + 2, 3, none⟩ = some (.int .i64 y.tt) ∧ (w'.setCell ⟨M, 3, none⟩ v).cell? ⟨w.heap.size + 2, 4, none⟩ = some (.slice y.p y.l y.c) := fun w' v hb =>
      ⟨((hF w' hb).set3 v).r3, ((hF w' hb).set3 v).y0, ((hF w' hb).set3 v).y1, ((hF w' hb).set3 v).y2, ((hF w' hb).set3 v).y3, ((hF w' hb).set3 v).y4⟩
    have hEd : ∀ w', Below W4.heap.size W4 w' → NewsAt w' 5 (.slice a4 n4 c4) n4 (rowE r.ed) := fun w' hb => by
      have := (h4.below (hF w' hb).bel).news (c := c4) z4
      rwa [l4] at this
    have hMl := hfs.mlt
    replace hF : Hid _ := hF
    replace hS : Hid _ := hS
    replace hS3 : Hid _ := hS3
    replace hEd : Hid _ := hEd
    go_region_held3 (fun w' => w'.cell? ⟨w.heap.size, 3, none⟩ = some (.slice a4 n4 c4) ∧ w'.cell? ⟨w.heap.size + 2, 0, none⟩ = some (.int .i64 y.id) ∧ w'.cell? ⟨w.heap.size + 2, 1, none⟩ = some (.string y.lab) ∧ w'.cell? ⟨w.heap.size + 2, 2, none⟩ = some (.int .i64 y.fr) ∧ w'.cell? ⟨w.heap.size + 2, 3, none⟩ = some (.int .i64 y.tt) ∧ w'.cell? ⟨w.heap.size + 2, 4, none⟩ = some (.slice y.p y.l y.c))
      (first | exact hS3.out _ _ hB6 | exact hS.out _ hB6 | exact hS.out _ (hB5.alloc hB5.size _) | exact hS.out _ hB5 | exact hS.out _ (by go_grown))
      (first
        | (refine step_append_any _ (by rfl) _ _ _ (by rfl) W4.heap.size 46 i0 _ 5 64 Tryd.underlying26 hi0 hz0 hz1 hz2 (by rfl) (by omega) _ 0 0 [] (by rfl) (own_empty 5 (by omega) (by first | exact heap_alloc_new _ _ | exact heap_alloc2_old _ _ _ | exact heap_alloc2_new _ _ _)) _ n4 (rowE r.ed) (by rfl) (hEd.out _ (by go_grown)) (flat_one cellsE oneE r.ed) n4 (rowE r.ed) (by omega) (by rfl) (by unfold maxLen; omega) (by omega) (by first | (simp; done) | (simp; omega)) ?_; intro g1 cap1 w5 hown1 hgrow1; have hB5 := below_grown (B := W4.heap.size) (W := W4) (by go_grown) hgrow1 (by omega) (Nat.le_refl _))
        | (refine step_append_any _ (by rfl) _ _ _ (by rfl) W4.heap.size 46 i0 _ 5 64 Tryd.underlying26 hi0 hz0 hz1 hz2 (by rfl) (by omega) g1 cap1 n4 (rowE r.ed) (by rfl) (by first | exact hown1 | exact hown1.alloc _) _ 1 (cellsE y) (by rfl) (news_block (by first | exact heap_alloc_new _ _ | exact (hgrow1.block _ (by first | (simp; done) | (simp; omega)) (by first | (simp; done) | (simp; omega))).trans (heap_alloc2_new _ _ _) | exact (hgrow1.block _ (by first | (simp; done) | (simp; omega)) (by first | (simp; done) | (simp; omega))).trans (heap_alloc2_old _ _ _)) rfl) (oneE y) (n4 + 1) (rowE (r.ed ++ [y])) (by omega) (rowE_more _ _) (by unfold maxLen; omega) (by omega) (by first | exact hB5.size | (have := hB5.size; simp; omega)) ?_; intro g2 cap2 w6 hown2 hgrow2; have hB6 := below_grown (B := W4.heap.size) (W := W4) (by first | exact hB5 | exact hB5.alloc hB5.size _) hgrow2 (hown1.lt g1 rfl).1 (Nat.le_refl _); have f3 := (hF.out _ hB6).m3; have f4 := (hF.out _ hB6).mf 3))
    all_goals
      have hMg : g2 ≠ M := by have := (hown2.lt g2 rfl).1; omega
      go_wp2_with fail
      go_meet
      case rel => exact ⟨g2, cap2, (hF.out _ hB6).set3 _, edges_of (by have := own_setCell hown2 (M := M) (j := 3) (u := .slice (some ⟨g2, 0, none⟩) (n4 + 1) cap2) (by simp [Value.ownBlock]; exact hMg); rw [show (r.ed ++ [y]).length = n4 + 1 by simp [l4]]; exact this) (EDok.more (fun i hi => (h4.oks i hi).below ((hF.out _ hB6).set3 _).bel) (hy.below ((hF.out _ hB6).set3 _).bel))⟩
  case rest =>
    obtain ⟨g, cap, hfs2, hed⟩ := hcut
    clear hfs
    have d0 := hfs2.m0
    have d1 := hfs2.m1
    have d2 := hfs2.m2
    have d3 := hfs2.m3
    by_cases hA : A3 = 0
    case neg =>
      have hAB := qE.1 hA
      simp only [Prod.mk.injEq] at hAB
      obtain ⟨rfl, rfl, rfl⟩ := hAB
      have htb : (B3 != 0) = true := by simpa using hA
      clear hN qE qN hC
      go_wp2_with (go_at_call 11; refine Calls.mono (hE.out _ hfs2.bel g cap hed) ?_; rintro e w7 ⟨rfl, hb7⟩; have hf8 := (hfs2.below hb7).below (below_new w7 (.cells #[.int .i64 B1, .int .i64 B2] 31)); have e0 := hf8.p0; have e1 := hf8.p1)
      all_goals first | (exfalso; simp_all; done) | (go_returns; exact ⟨by simp, hf8.bel⟩)
    subst hA
    have qB := qE.2 rfl
    have qC := qN rfl
    clear qE qN hC
    go_upto_region 8 with (go_at_call 11; refine Calls.mono (hE.out _ hfs2.bel g cap hed) ?_; rintro e w7 ⟨rfl, hb7⟩; have hf8 := (hfs2.below hb7).below (below_new w7 (.cells #[.int .i64 B1, .int .i64 B2] 31)); have e0 := hf8.p0; have e1 := hf8.p1)
    have hP2 : (w7.alloc (.cells #[.int .i64 B1, .int .i64 B2] 31)).heap[w7.heap.size]? = some (.cells #[.int .i64 B1, .int .i64 B2] 31) := heap_alloc_new _ _
    have hPM : w7.heap.size ≠ M := by have := (hfs2.below hb7).mlt; omega
    have hP0 : w.heap.size ≤ w7.heap.size := (hfs2.below hb7).bel.size
    generalize w7.alloc (.cells #[.int .i64 B1, .int .i64 B2] 31) = W8 at hf8 hP2 e0 e1 ⊢
    generalize w7.heap.size = P2 at hP2 hPM hP0 ⊢
    clear hfs2 hed d0 d1 d2 d3 hE hb7 e0 e1
    go_cut [55] (fun v wx => v = .bool false ∧ wx = W8)
    case first =>
      have e0 : W8.cell? ⟨P2, 0, none⟩ = some (.int .i64 B1) := by simp [World.cell?, hP2]
      have e1 : W8.cell? ⟨P2, 1, none⟩ = some (.int .i64 B2) := by simp [World.cell?, hP2]
      have e2 := hf8.r3
      by_cases hB : B3 = 0
      · subst hB
        go_wp2_with fail
        go_meet
        case rel => exact ⟨by simp, rfl⟩
      · obtain ⟨rfl, rfl⟩ := qB.resolve_left hB
        have htb : (B3 != 0) = true := by simpa using hB
        go_wp2_with fail
        go_meet
        case rel => exact ⟨by simp, rfl⟩
    case rest =>
      obtain ⟨rfl, rfl⟩ := hcut
      have e0 := hf8.r0
      have e1 := hf8.r1
      have e2 := hf8.r2
      have e3 := hf8.r3
      have d0 := hf8.m0
      have d1 := hf8.m1
      have d2 := hf8.m2
      have d3 := hf8.m3
      have f0 := hf8.mf 0
      have f1 := hf8.mf 1
      have f2 := hf8.mf 2
      have f3 := hf8.mf 3
      clear qB
      go_wp2_with fail
      have hfs := (((hf8.set0 (.slice a1 n1 c1)).set1 (.slice a2 n2 c2)).set2 (.slice a3 n3 c3)).set3 (.slice a4 n4 c4)
      have hQ : ((((wc.setCell ⟨M, 0, none⟩ (.slice a1 n1 c1)).setCell ⟨M, 1, none⟩ (.slice a2 n2 c2)).setCell ⟨M, 2, none⟩ (.slice a3 n3 c3)).setCell ⟨M, 3, none⟩ (.slice a4 n4 c4)).heap[P2]? = some (.cells #[.int .i64 B1, .int .i64 B2] 31) := by
        rw [Below.heap_setCell _ _ _ _ hPM, Below.heap_setCell _ _ _ _ hPM, Below.heap_setCell _ _ _ _ hPM, Below.heap_setCell _ _ _ _ hPM]
        exact hP2
      generalize (((wc.setCell ⟨M, 0, none⟩ (.slice a1 n1 c1)).setCell ⟨M, 1, none⟩ (.slice a2 n2 c2)).setCell ⟨M, 2, none⟩ (.slice a3 n3 c3)).setCell ⟨M, 3, none⟩ (.slice a4 n4 c4) = W4 at hfs hQ ⊢
      clear hf8 hP2 e0 e1 e2 e3 d0 d1 d2 d3 f0 f1 f2 f3
      go_cut [63] (fun v wx => ∃ g cap, FS w wx (.slice a1 n1 c1) (.slice a2 n2 c2) (.slice a3 n3 c3) (.slice a4 n4 c4) x y P M A1 A2 (.slice a1 n1 c1) (.slice a2 n2 c2) (.slice (some ⟨g, 0, none⟩) (n3 + 1) cap) (.slice a4 n4 c4) ∧ NDsAt wx (some ⟨g, 0, none⟩) (r.nd ++ [x]) ∧ wx.heap[P2]? = some (.cells #[.int .i64 B1, .int .i64 B2] 31))
      case first =>
        obtain ⟨i0, hi0, hz0, hz1, hz2⟩ := info_parts info44
        have hF : ∀ w', Below W4.heap.size W4 w' → FS w w' (.slice a1 n1 c1) (.slice a2 n2 c2) (.slice a3 n3 c3) (.slice a4 n4 c4) x y P M A1 A2 (.slice a1 n1 c1) (.slice a2 n2 c2) (.slice a3 n3 c3) (.slice a4 n4 c4) := fun w' hb => hfs.below hb
        have hS : ∀ w', Below W4.heap.size W4 w' → w'.cell? ⟨w.heap.size, 2, none⟩ = some (.slice a3 n3 c3) ∧ w'.cell? ⟨w.heap.size + 1, 0, none⟩ = some (.int .i64 x.id) ∧ w'.cell? ⟨w.heap.size + 1, 1, none⟩ = some (.string x.lab) ∧ w'.cell? ⟨w.heap.size + 1, 2, none⟩ = some (.slice x.p x.l x.c) := fun w' hb => ⟨(hF w' hb).r2, (hF w' hb).x0, (hF w' hb).x1, (hF w' hb).x2⟩
        have hS3 : ∀ w' v, Below W4.heap.size W4 w' → (w'.setCell ⟨M, 2, none⟩ v).cell? ⟨w.heap.size, 2, none⟩ = some (.slice a3 n3 c3) ∧ (w'.setCell ⟨M, 2, none⟩ v).cell? ⟨w.heap.size + 1, 0, none⟩ = some (.int .i64 x.id) ∧ (w'.setCell ⟨M, 2, none⟩ v).cell? ⟨w.heap.size + 1, 1, none⟩ = some (.string x.lab) ∧ (w'.setCell ⟨M, 2, none⟩ v).cell? ⟨w.heap.size + 1, 2, none⟩ = some (.slice x.p x.l x.c) := fun w' v hb =>
          ⟨((hF w' hb).set2 v).r2, ((hF w' hb).set2 v).x0, ((hF w' hb).set2 v).x1, ((hF w' hb).set2 v).x2⟩
        have hEd : ∀ w', Below W4.heap.size W4 w' → NewsAt w' 3 (.slice a3 n3 c3) n3 (rowN r.nd) := fun w' hb => by
          have := (h3.below (hF w' hb).bel).news (c := c3) z3
          rwa [l3] at this
        have hMl := hfs.mlt
        have hPl : P2 < W4.heap.size := (Array.getElem?_eq_some_iff.1 hQ).1
        replace hF : Hid _ := hF
        replace hS : Hid _ := hS
        replace hS3 : Hid _ := hS3
        replace hEd : Hid _ := hEd
        go_region_held3 (fun w' => w'.cell? ⟨w.heap.size, 2, none⟩ = some (.slice a3 n3 c3) ∧ w'.cell? ⟨w.heap.size + 1, 0, none⟩ = some (.int .i64 x.id) ∧ w'.cell? ⟨w.heap.size + 1, 1, none⟩ = some (.string x.lab) ∧ w'.cell? ⟨w.heap.size + 1, 2, none⟩ = some (.slice x.p x.l x.c))
          (first | exact hS3.out _ _ hB6 | exact hS.out _ hB6 | exact hS.out _ (hB5.alloc hB5.size _) | exact hS.out _ hB5 | exact hS.out _ (by go_grown))
          (first
            | (refine step_append_any _ (by rfl) _ _ _ (by rfl) W4.heap.size 44 i0 _ 3 48 Tryd.underlying25 hi0 hz0 hz1 hz2 (by rfl) (by omega) _ 0 0 [] (by rfl) (own_empty 3 (by omega) (by first | exact heap_alloc_new _ _ | exact heap_alloc2_old _ _ _ | exact heap_alloc2_new _ _ _)) _ n3 (rowN r.nd) (by rfl) (hEd.out _ (by go_grown)) (flat_one cellsN oneN r.nd) n3 (rowN r.nd) (by omega) (by rfl) (by unfold maxLen; omega) (by omega) (by first | (simp; done) | (simp; omega)) ?_; intro g1 cap1 w5 hown1 hgrow1; have hB5 := below_grown (B := W4.heap.size) (W := W4) (by go_grown) hgrow1 (by omega) (Nat.le_refl _))
            | (refine step_append_any _ (by rfl) _ _ _ (by rfl) W4.heap.size 44 i0 _ 3 48 Tryd.underlying25 hi0 hz0 hz1 hz2 (by rfl) (by omega) g1 cap1 n3 (rowN r.nd) (by rfl) (by first | exact hown1 | exact hown1.alloc _) _ 1 (cellsN x) (by rfl) (news_block (by first | exact heap_alloc_new _ _ | exact (hgrow1.block _ (by first | (simp; done) | (simp; omega)) (by first | (simp; done) | (simp; omega))).trans (heap_alloc2_new _ _ _) | exact (hgrow1.block _ (by first | (simp; done) | (simp; omega)) (by first | (simp; done) | (simp; omega))).trans (heap_alloc2_old _ _ _)) rfl) (oneN x) (n3 + 1) (rowN (r.nd ++ [x])) (by omega) (rowN_more _ _) (by unfold maxLen; omega) (by omega) (by first | exact hB5.size | (have := hB5.size; simp; omega)) ?_; intro g2 cap2 w6 hown2 hgrow2; have hB6 := below_grown (B := W4.heap.size) (W := W4) (by first | exact hB5 | exact hB5.alloc hB5.size _) hgrow2 (hown1.lt g1 rfl).1 (Nat.le_refl _); have f3 := (hF.out _ hB6).m2; have f4 := (hF.out _ hB6).mf 2))
        all_goals
          have hMg : g2 ≠ M := by have := (hown2.lt g2 rfl).1; omega
          go_wp2_with fail
          go_meet
          case rel => exact ⟨g2, cap2, (hF.out _ hB6).set2 _, nodes_of (by have := own_setCell hown2 (M := M) (j := 2) (u := .slice (some ⟨g2, 0, none⟩) (n3 + 1) cap2) (by simp [Value.ownBlock]; exact hMg); rw [show (r.nd ++ [x]).length = n3 + 1 by simp [l3]]; exact this) (NDok.more (fun i hi => (h3.oks i hi).below ((hF.out _ hB6).set2 _).bel) (hx.below ((hF.out _ hB6).set2 _).bel)), by rw [Below.heap_setCell _ _ _ _ hPM, hB6.block P2 hPl]; exact hQ⟩
      case rest =>
        obtain ⟨g, cap, hfs2, hnd, hQ2⟩ := hcut
        clear hfs hQ
        have d0 := hfs2.m0
        have d1 := hfs2.m1
        have d2 := hfs2.m2
        have d3 := hfs2.m3
        have hPl : P2 < _ := (Array.getElem?_eq_some_iff.1 hQ2).1
        have hne : P2 ≠ w.heap.size := by
          intro e
          have := hfs2.r0
          rw [← e] at this
          simp [World.cell?, hQ2] at this
        have fin : ∀ w9, Below _ _ w9 → w9.cell? ⟨P2, 0, none⟩ = some (.int .i64 B1) ∧ w9.cell? ⟨P2, 1, none⟩ = some (.int .i64 B2) ∧ w9.frozen? ⟨P2, 0, none⟩ = false ∧ w9.frozen? ⟨P2, 1, none⟩ = false ∧ w9.cell? ⟨w.heap.size, 2, none⟩ = some (.slice a3 n3 c3) := fun w9 hb => by
          have hq := (hb.block P2 hPl).trans hQ2
          exact ⟨by simp [World.cell?, hq], by simp [World.cell?, hq], by simp [World.frozen?, hq], by simp [World.frozen?, hq], (hfs2.below hb).r2⟩
        have hbl := hfs2.bel
        replace fin : Hid _ := fin
        by_cases hCC : C3 = 0
        · subst hCC
          clear qC
          go_wp2_with (go_at_call 11; refine Calls.mono (hN.out _ hbl g cap hnd) ?_; rintro e w9 ⟨rfl, hb9⟩; obtain ⟨e0, e1, e2, e3, e4⟩ := fin.out _ hb9)
          go_returns
          exact ⟨by simp, ((hbl.trans (hb9.mono hbl.size)).setCell hP0 _).setCell hP0 _⟩
        · obtain ⟨rfl, rfl⟩ := qC.resolve_left hCC
          have htb : (C3 == 0) = false := by simpa using hCC
          go_wp2_with (go_at_call 11; refine Calls.mono (hN.out _ hbl g cap hnd) ?_; rintro e w9 ⟨rfl, hb9⟩; obtain ⟨e0, e1, e2, e3, e4⟩ := fin.out _ hb9)
          go_returns
          exact ⟨by simp, ((hbl.trans (hb9.mono hbl.size)).setCell hP0 _).setCell hP0 _⟩
end Go.Proofs.YtmioohbailhppaaDoor
