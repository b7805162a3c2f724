/-
  RawgraphIDs: its own walk.
-/
import Derived.Test.YtmioohbailhppaaDoorIds0
import Derived.Test.YtmioohbailhppaaDoorFst
namespace Go.Proofs.YtmioohbailhppaaDoor
open Go.ChangeShapes Go.WideShapes Go.ChangeAt Go.RowKit
set_option linter.unusedSimpArgs false
set_option linter.unusedVariables false

theorem rem_nat (u n : Nat) : (u : Int).tmod (n : Int) = ((u % n : Nat) : Int) ∧ (u : Int) % (n : Int) = ((u % n : Nat) : Int) :=
  ⟨by rw [Int.tmod_eq_emod_of_nonneg (by omega)]; rfl, rfl⟩
set_option maxRecDepth 100000 in
/-- A byte that came in. -/
theorem open_u8 {H : Type} {enc : TypeId × Value → H} {w : World} {held : Bool} {r : Reach} {b0 : Nat} {v : Value} {d : DataW H} {p : List MemPlace} (hv : Value.okWide Tryd.prog w r b0 5 v) (h : DataW.Trod enc Tryd.prog w 0 (fun _ => true) held 5 v d p) : ∃ u : Nat, v = .int .u8 u ∧ u < 256 := by
  obtain ⟨n, rfl⟩ := okWide_int Tryd.underlying5 hv
  obtain ⟨fuel, hf⟩ := h
  obtain ⟨z, e, _, hw⟩ := DataW.trod_int Tryd.underlying5 hf
  simp [Value.cells] at e
  subst e
  simp [Lit.wf, IntKind.min, IntKind.max, IntKind.signed, IntKind.bits] at hw
  exact ⟨n.toNat, by congr 1; omega, by omega⟩

set_option maxRecDepth 100000 in
set_option maxHeartbeats 8000000 in
theorem IDs_walk (a1 : Option Addr) (n1 c1 : Nat) (a2 : Option Addr) (n2 c2 : Nat) (a3 : Option Addr) (n3 c3 : Nat) (a4 : Option Addr) (n4 c4 : Nat) (r : RW) (u : Nat) (w : World)
    (l1 : r.nt.length = n1) (k1 : n1 ≤ c1) (m1 : c1 ≤ maxLen) (h1 : TDsAt w a1 r.nt) (l2 : r.et.length = n2) (k2 : n2 ≤ c2) (m2 : c2 ≤ maxLen) (h2 : TDsAt w a2 r.et)
    (l3 : r.nd.length = n3) (h3 : NDsAt w a3 r.nd) (b3 : n3 * 48 ≤ 140737488351232) (z3 : a3 = none → r.nd = [] ∧ c3 = 0) (l4 : r.ed.length = n4) (h4 : EDsAt w a4 r.ed) (b4 : n4 * 64 ≤ 140737488351232) (z4 : a4 = none → r.ed = [] ∧ c4 = 0) (hT : Tabs w)
    (hu : u < 256) :
    Calls Tryd.prog 7 #[.agg #[.slice a1 n1 c1, .slice a2 n2 c2, .slice a3 n3 c3, .slice a4 n4 c4], .int .u8 u] w fun e w' => e = .returned (.bool true) ∧ Below w.heap.size w w' := by
  have hH := fun w h => head_any w h
  have hC := fun w' (hb : Below w.heap.size w w') => Check_any a1 n1 c1 a2 n2 c2 a3 n3 c3 a4 n4 c4 r w' l1 k1 m1 (h1.below hb) l2 k2 m2 (h2.below hb) l3 (by unfold maxLen; omega) (h3.below hb) l4 (by unfold maxLen; omega) (h4.below hb) (hT.below hb)
  have hN := fun w' (hb : Below w.heap.size w w') x g cap (he : NDsAt w' (some ⟨g, 0, none⟩) (r.nd ++ [x])) => Check_any a1 n1 c1 a2 n2 c2 (some ⟨g, 0, none⟩) (n3 + 1) cap a4 n4 c4 (moreN r x) w' l1 k1 m1 (h1.below hb) l2 k2 m2 (h2.below hb) (by simp [moreN, l3]) (by unfold maxLen; omega) he l4 (by unfold maxLen; omega) (h4.below hb) (hT.below hb)
  have hE := fun w' (hb : Below w.heap.size w w') k g cap (he : EDsAt w' (some ⟨g, 0, none⟩) (lost r k).ed) => Check_any a1 n1 c1 a2 n2 c2 a3 n3 c3 (some ⟨g, 0, none⟩) n4 cap (lost r k) w' l1 k1 m1 (h1.below hb) l2 k2 m2 (h2.below hb) l3 (by unfold maxLen; omega) (h3.below hb) (by simp [lost, l4]) (by unfold maxLen; omega) he (hT.below hb)
  have qN := fun k hk => chk_again r k hk
  have qE := fun k hk => chk_lost r k hk
  generalize chk r = A at hC qE qN
  obtain ⟨A1, A2, A3⟩ := A
  simp only at hC qE qN
  have hb0 : Below w.heap.size w (w.alloc (.cells #[.slice a1 n1 c1, .slice a2 n2 c2, .slice a3 n3 c3, .slice a4 n4 c4] 28)) := below_new _ _
  obtain ⟨v0, v1, v2, v3⟩ := cells4_new w (.slice a1 n1 c1) (.slice a2 n2 c2) (.slice a3 n3 c3) (.slice a4 n4 c4) 28
  have hst := fun W2 hb => GS.start w W2 (.slice a1 n1 c1) (.slice a2 n2 c2) (.slice a3 n3 c3) (.slice a4 n4 c4) A1 A2 hb
  replace hH : Hid _ := hH
  replace hC : Hid _ := hC
  replace hE : Hid _ := hE
  replace hN : Hid _ := hN
  replace hst : Hid _ := hst
  replace qN : Hid _ := qN
  replace qE : Hid _ := qE
  by_cases hA : A3 = 0
  case neg =>
    have htb : (A3 != 0) = true := by simpa using hA
    go_enter Tryd.func7, Tryd.ntmps7
    go_wp2_with (first
      | (go_at_call 8; refine Calls.mono (hH.out _ (hT.below hb0)) ?_; rintro e w1 ⟨rfl, hb1⟩; replace v0 := (hb1.cell (World.block_lt_of_cell? _ _ v0)).trans v0; replace v1 := (hb1.cell (World.block_lt_of_cell? _ _ v1)).trans v1; replace v2 := (hb1.cell (World.block_lt_of_cell? _ _ v2)).trans v2; replace v3 := (hb1.cell (World.block_lt_of_cell? _ _ v3)).trans v3)
      | (go_at_call 11; refine Calls.mono (hC.out _ (below_on hb0 hb1)) ?_; rintro e W2 ⟨rfl, hb2⟩))
    all_goals first | (exfalso; simp_all; done) | (go_returns; exact ⟨by simp, below_on (below_on (below_on hb0 hb1) hb2) (below_new _ _)⟩)
  subst hA
  by_cases hn0 : n3 = 0
  · subst hn0
    go_enter Tryd.func7, Tryd.ntmps7
    go_wp2_with (first
      | (go_at_call 8; refine Calls.mono (hH.out _ (hT.below hb0)) ?_; rintro e w1 ⟨rfl, hb1⟩; replace v0 := (hb1.cell (World.block_lt_of_cell? _ _ v0)).trans v0; replace v1 := (hb1.cell (World.block_lt_of_cell? _ _ v1)).trans v1; replace v2 := (hb1.cell (World.block_lt_of_cell? _ _ v2)).trans v2; replace v3 := (hb1.cell (World.block_lt_of_cell? _ _ v3)).trans v3)
      | (go_at_call 11; refine Calls.mono (hC.out _ (below_on hb0 hb1)) ?_; rintro e W2 ⟨rfl, hb2⟩; replace v2 := cell_keep (.cells #[.int .i64 A1, .int .i64 A2] 31) ((hb2.cell (World.block_lt_of_cell? _ _ v2)).trans v2)))
    all_goals first | (exfalso; simp_all; done) | (go_returns; exact ⟨by simp, below_on (below_on (below_on hb0 hb1) hb2) (below_new _ _)⟩)
  go_enter Tryd.func7, Tryd.ntmps7
  go_wp2_with (first
    | (go_at_call 8; refine Calls.mono (hH.out _ (hT.below hb0)) ?_; rintro e w1 ⟨rfl, hb1⟩; replace v0 := (hb1.cell (World.block_lt_of_cell? _ _ v0)).trans v0; replace v1 := (hb1.cell (World.block_lt_of_cell? _ _ v1)).trans v1; replace v2 := (hb1.cell (World.block_lt_of_cell? _ _ v2)).trans v2; replace v3 := (hb1.cell (World.block_lt_of_cell? _ _ v3)).trans v3)
    | (go_at_call 11; refine Calls.mono (hC.out _ (below_on hb0 hb1)) ?_; rintro e W2 ⟨rfl, hb2⟩; replace v0 := cell_keep (.cells #[.int .i64 A1, .int .i64 A2] 31) ((hb2.cell (World.block_lt_of_cell? _ _ v0)).trans v0); replace v1 := cell_keep (.cells #[.int .i64 A1, .int .i64 A2] 31) ((hb2.cell (World.block_lt_of_cell? _ _ v1)).trans v1); replace v2 := cell_keep (.cells #[.int .i64 A1, .int .i64 A2] 31) ((hb2.cell (World.block_lt_of_cell? _ _ v2)).trans v2); replace v3 := cell_keep (.cells #[.int .i64 A1, .int .i64 A2] 31) ((hb2.cell (World.block_lt_of_cell? _ _ v3)).trans v3)))
  all_goals try (exfalso; simp_all; done)
  have hfs := hst.out W2 (below_on hb1 hb2)
  generalize (W2.alloc (.cells #[.int .i64 A1, .int .i64 A2] 31)).alloc (.cells #[.slice a1 n1 c1, .slice a2 n2 c2, .slice a3 n3 c3, .slice a4 n4 c4] 28) = W4 at hfs ⊢
  generalize W2.heap.size + 1 = M at hfs ⊢
  generalize W2.heap.size = P at hfs ⊢
  clear hst v0 v1 v2 v3 hb0 hb1 hb2 hH hC
  have hk : u % n3 < n3 := Nat.mod_lt _ (by omega)
  obtain ⟨hrem, hrem2⟩ := rem_nat u n3
  have qN1 := qN.out (u % n3) (by omega) trivial
  rw [l3] at qN1
  clear qN
  generalize u % n3 = k at hk hrem hrem2 qN1
  have hn0' : ¬ (n3 : Int) = 0 := by omega
  have hk0 : (0 : Int) ≤ (k : Int) := by omega
  have hk1 : (k : Int) < (n3 : Int) := by omega
  have hwk : IntKind.i64.wrap (k : Int) = (k : Int) := by rw [IntKind.wrap_i64]; omega
  have hwu : IntKind.i64.wrap (u : Int) = (u : Int) := by rw [IntKind.wrap_i64]; omega
  have hwt : IntKind.i64.wrap ((u : Int).tmod (n3 : Int)) = (k : Int) := by rw [hrem]; exact hwk
  have h3' := h3
  rcases h3 with h0 | ⟨g0, off, rfl, hxx⟩
  · rw [h0] at l3; simp at l3; omega
  have hxk := hxx k (by omega)
  have hxo := h3'.oks k (by omega)
  have hN1 := fun w' hb g cap he => hN.out w' hb (r.nd.getD k default) g cap he
  rw [qN1] at hN1
  simp only at hN1
  clear hN hxx qN1
  replace hN1 : Hid _ := hN1
  generalize hX : r.nd.getD k default = x at hxk hxo hN1
  clear hX
  go_cut [47] (fun v wx => ∃ g cap, GS w wx (.slice a1 n1 c1) (.slice a2 n2 c2) (.slice (some ⟨g0, off, none⟩) n3 c3) (.slice a4 n4 c4) P M A1 A2 (.slice a1 n1 c1) (.slice a2 n2 c2) (.slice (some ⟨g, 0, none⟩) (n3 + 1) cap) (.slice a4 n4 c4) ∧ NDsAt wx (some ⟨g, 0, none⟩) (r.nd ++ [x]))
  case first =>
    obtain ⟨i0, hi0, hz0, hz1, hz2⟩ := info_parts info44
    have hF : ∀ w', Below W4.heap.size W4 w' → GS w w' (.slice a1 n1 c1) (.slice a2 n2 c2) (.slice (some ⟨g0, off, none⟩) n3 c3) (.slice a4 n4 c4) P M A1 A2 (.slice a1 n1 c1) (.slice a2 n2 c2) (.slice (some ⟨g0, off, none⟩) n3 c3) (.slice a4 n4 c4) := fun w' hb => hfs.below hb
    have hS : ∀ w', Below W4.heap.size W4 w' → w'.cell? ⟨w.heap.size, 2, none⟩ = some (.slice (some ⟨g0, off, none⟩) n3 c3) ∧ w'.cell? ⟨g0, off + k * 3, none⟩ = some (.int .i64 x.id) ∧ w'.cell? ⟨g0, off + k * 3 + 1, none⟩ = some (.string x.lab) ∧ w'.cell? ⟨g0, off + k * 3 + 2, none⟩ = some (.slice x.p x.l x.c) := fun w' hb => ⟨(hF w' hb).r2, (hxk.below (hF w' hb).bel).c0, (hxk.below (hF w' hb).bel).c1, (hxk.below (hF w' hb).bel).c2⟩
    have hS3 : ∀ w' v, Below W4.heap.size W4 w' → (w'.setCell ⟨M, 2, none⟩ v).cell? ⟨w.heap.size, 2, none⟩ = some (.slice (some ⟨g0, off, none⟩) n3 c3) ∧ (w'.setCell ⟨M, 2, none⟩ v).cell? ⟨g0, off + k * 3, none⟩ = some (.int .i64 x.id) ∧ (w'.setCell ⟨M, 2, none⟩ v).cell? ⟨g0, off + k * 3 + 1, none⟩ = some (.string x.lab) ∧ (w'.setCell ⟨M, 2, none⟩ v).cell? ⟨g0, off + k * 3 + 2, none⟩ = some (.slice x.p x.l x.c) := fun w' v hb =>
      ⟨((hF w' hb).set2 v).r2, (hxk.below ((hF w' hb).set2 v).bel).c0, (hxk.below ((hF w' hb).set2 v).bel).c1, (hxk.below ((hF w' hb).set2 v).bel).c2⟩
    have hEd : ∀ w', Below W4.heap.size W4 w' → NewsAt w' 3 (.slice (some ⟨g0, off, none⟩) n3 c3) n3 (rowN r.nd) := fun w' hb => by
      have := (h3'.below (hF w' hb).bel).news (c := c3) z3
      rwa [l3] at this
    have hMl := hfs.mlt
    replace hF : Hid _ := hF
    replace hS : Hid _ := hS
    replace hS3 : Hid _ := hS3
    replace hEd : Hid _ := hEd
    go_region_held3 (fun w' => w'.cell? ⟨w.heap.size, 2, none⟩ = some (.slice (some ⟨g0, off, none⟩) n3 c3) ∧ w'.cell? ⟨g0, off + k * 3, none⟩ = some (.int .i64 x.id) ∧ w'.cell? ⟨g0, off + k * 3 + 1, none⟩ = some (.string x.lab) ∧ w'.cell? ⟨g0, off + k * 3 + 2, none⟩ = some (.slice x.p x.l x.c))
      (first | exact hS3.out _ _ hB6 | exact hS.out _ hB6 | exact hS.out _ (hB5.alloc hB5.size _) | exact hS.out _ hB5 | exact hS.out _ (by go_grown))
      (first
        | (refine step_append_any _ (by rfl) _ _ _ (by rfl) W4.heap.size 44 i0 _ 3 48 Tryd.underlying25 hi0 hz0 hz1 hz2 (by rfl) (by omega) _ 0 0 [] (by rfl) (own_empty 3 (by omega) (by first | exact heap_alloc_new _ _ | exact heap_alloc2_old _ _ _ | exact heap_alloc2_new _ _ _)) _ n3 (rowN r.nd) (by rfl) (hEd.out _ (by go_grown)) (flat_one cellsN oneN r.nd) n3 (rowN r.nd) (by omega) (by rfl) (by unfold maxLen; omega) (by omega) (by first | (simp; done) | (simp; omega)) ?_; intro g1 cap1 w5 hown1 hgrow1; have hB5 := below_grown (B := W4.heap.size) (W := W4) (by go_grown) hgrow1 (by omega) (Nat.le_refl _))
        | (refine step_append_any _ (by rfl) _ _ _ (by rfl) W4.heap.size 44 i0 _ 3 48 Tryd.underlying25 hi0 hz0 hz1 hz2 (by rfl) (by omega) g1 cap1 n3 (rowN r.nd) (by rfl) (by first | exact hown1 | exact hown1.alloc _) _ 1 (cellsN x) (by rfl) (news_block (by first | exact heap_alloc_new _ _ | exact (hgrow1.block _ (by first | (simp; done) | (simp; omega)) (by first | (simp; done) | (simp; omega))).trans (heap_alloc2_new _ _ _) | exact (hgrow1.block _ (by first | (simp; done) | (simp; omega)) (by first | (simp; done) | (simp; omega))).trans (heap_alloc2_old _ _ _)) rfl) (oneN x) (n3 + 1) (rowN (r.nd ++ [x])) (by omega) (rowN_more _ _) (by unfold maxLen; omega) (by omega) (by first | exact hB5.size | (have := hB5.size; simp; omega)) ?_; intro g2 cap2 w6 hown2 hgrow2; have hB6 := below_grown (B := W4.heap.size) (W := W4) (by first | exact hB5 | exact hB5.alloc hB5.size _) hgrow2 (hown1.lt g1 rfl).1 (Nat.le_refl _); have f3 := (hF.out _ hB6).m2; have f4 := (hF.out _ hB6).mf 2))
    all_goals
      have hMg : g2 ≠ M := by have := (hown2.lt g2 rfl).1; omega
      go_wp2_with fail
      go_meet
      case rel => exact ⟨g2, cap2, (hF.out _ hB6).set2 _, nodes_of (by have := own_setCell hown2 (M := M) (j := 2) (u := .slice (some ⟨g2, 0, none⟩) (n3 + 1) cap2) (by simp [Value.ownBlock]; exact hMg); rw [show (r.nd ++ [x]).length = n3 + 1 by simp [l3]]; exact this) (NDok.more (fun i hi => (h3'.oks i hi).below ((hF.out _ hB6).set2 _).bel) (hxo.below ((hF.out _ hB6).set2 _).bel))⟩
  case rest =>
    obtain ⟨g, cap, hfs2, hnd⟩ := hcut
    clear hfs hrem hrem2 hwk hwt hk0 hk1
    have d0 := hfs2.m0
    have d1 := hfs2.m1
    have d2 := hfs2.m2
    have d3 := hfs2.m3
    go_upto_region 10 with (go_at_call 11; refine Calls.mono (hN1.out _ hfs2.bel g cap hnd) ?_; rintro e w7 ⟨rfl, hb7⟩; have hf8 := (hfs2.below hb7).below (below_new w7 (.cells #[.int .i64 3, .int .i64 n3] 31)); have e2 := hf8.r2)
    all_goals try (exfalso; simp_all; done)
    have hP2 : (w7.alloc (.cells #[.int .i64 3, .int .i64 n3] 31)).heap[w7.heap.size]? = some (.cells #[.int .i64 3, .int .i64 n3] 31) := heap_alloc_new _ _
    have hPM : w7.heap.size ≠ M := by have := (hfs2.below hb7).mlt; omega
    have hP0 : w.heap.size < w7.heap.size := by have := (hfs2.below hb7).lt; omega
    have hPP : w7.heap.size ≠ P := by have := World.block_lt_of_cell? _ _ (hfs2.below hb7).p0; simp at this; omega
    generalize w7.alloc (.cells #[.int .i64 3, .int .i64 n3] 31) = W8 at hf8 hP2 e2 ⊢
    generalize w7.heap.size = P2 at hP2 hPM hP0 hPP ⊢
    have e3 := hf8.r3
    clear hfs2 hnd d0 d1 d2 d3 hN1 hb7
    by_cases hm0 : n4 = 0
    · subst hm0
      go_wp2_with fail
      all_goals first | (exfalso; simp_all; done) | (go_returns; exact ⟨by simp, hf8.bel⟩)
    obtain ⟨hrem, hrem2⟩ := rem_nat u n4
    have hj : u % n4 < n4 := Nat.mod_lt _ (by omega)
    have qE1 := qE.out (u % n4) (by omega) trivial
    have hE1 := fun w' hb g cap he => hE.out w' hb (u % n4) g cap he
    rw [qE1] at hE1
    simp only at hE1
    clear qE qE1 hE
    generalize u % n4 = j at hj hrem hrem2 hE1
    have hm0' : ¬ (n4 : Int) = 0 := by omega
    have hj0 : (0 : Int) ≤ (j : Int) := by omega
    have hj1 : (j : Int) < (n4 : Int) := by omega
    have hwj : IntKind.i64.wrap (j : Int) = (j : Int) := by rw [IntKind.wrap_i64]; omega
    have hwt : IntKind.i64.wrap ((u : Int).tmod (n4 : Int)) = (j : Int) := by rw [hrem]; exact hwj
    replace hE1 : Hid _ := hE1
    have d0 := hf8.m0
    have d1 := hf8.m1
    have d2 := hf8.m2
    have d3 := hf8.m3
    have e0 := hf8.r0
    have e1 := hf8.r1
    have f0 := hf8.mf 0
    have f1 := hf8.mf 1
    have f2 := hf8.mf 2
    have f3 := hf8.mf 3
    go_upto_region 14 with fail
    all_goals try (exfalso; simp_all; done)
    have hfs := (((hf8.set0 (.slice a1 n1 c1)).set1 (.slice a2 n2 c2)).set2 (.slice (some ⟨g0, off, none⟩) n3 c3)).set3 (.slice a4 n4 c4)
    have hQ : ((((W8.setCell ⟨M, 0, none⟩ (.slice a1 n1 c1)).setCell ⟨M, 1, none⟩ (.slice a2 n2 c2)).setCell ⟨M, 2, none⟩ (.slice (some ⟨g0, off, none⟩) n3 c3)).setCell ⟨M, 3, none⟩ (.slice a4 n4 c4)).heap[P2]? = some (.cells #[.int .i64 3, .int .i64 n3] 31) := by
      rw [Below.heap_setCell _ _ _ _ hPM, Below.heap_setCell _ _ _ _ hPM, Below.heap_setCell _ _ _ _ hPM, Below.heap_setCell _ _ _ _ hPM]
      exact hP2
    generalize (((W8.setCell ⟨M, 0, none⟩ (.slice a1 n1 c1)).setCell ⟨M, 1, none⟩ (.slice a2 n2 c2)).setCell ⟨M, 2, none⟩ (.slice (some ⟨g0, off, none⟩) n3 c3)).setCell ⟨M, 3, none⟩ (.slice a4 n4 c4) = W4 at hfs hQ ⊢
    clear hf8 hP2 e0 e1 e2 e3 d0 d1 d2 d3 f0 f1 f2 f3
    have hMl := hfs.mlt
    have hPl : P2 < W4.heap.size := (Array.getElem?_eq_some_iff.1 hQ).1
    obtain ⟨i0, hi0, hz0, hz1, hz2⟩ := info_parts info46
    have h4' := h4
    rcases h4 with h0 | ⟨g4, off4, rfl, hyy⟩
    · rw [h0] at l4; simp at l4; omega
    clear hyy
    have own0 : (W4.alloc (.cells #[] 46)).ownsRow W4.heap.size 46 5 (.slice (some ⟨W4.heap.size, 0, none⟩) 0 0) 0 [] := own_empty 5 (Nat.le_refl _) (heap_alloc_new _ _)
    have hfA := hfs.below (below_new W4 (.cells #[] 46))
    have hnews := (h4'.below hfA.bel).news (c := c4) z4
    rw [l4] at hnews
    rcases hnews with ⟨hnn, _⟩ | ⟨ad, cc, had, hnl, hnc⟩
    · cases hnn
    cases had
    have pack : ∀ v' w', w'.ownsRow W4.heap.size 46 5 v' (0 + n4) ([] ++ rowE r.ed) → (W4.alloc (.cells #[] 46)).grownBy w' (some W4.heap.size) → ∃ g1 cap1, v' = .slice (some ⟨g1, 0, none⟩) n4 cap1 ∧ w'.cell? ⟨M, 3, none⟩ = some (.slice (some ⟨g4, off4, none⟩) n4 c4) ∧ w'.frozen? ⟨M, 3, none⟩ = false ∧ (w'.setCell ⟨M, 3, none⟩ (.slice (some ⟨g1, 0, none⟩) n4 cap1)).cell? ⟨M, 3, none⟩ = some (.slice (some ⟨g1, 0, none⟩) n4 cap1) ∧ (w'.setCell ⟨M, 3, none⟩ (.slice (some ⟨g1, 0, none⟩) n4 cap1)).cell? ⟨g1, j * 5 + 3, none⟩ = some (.int .i64 (r.ed.getD j default).tt) ∧ (w'.setCell ⟨M, 3, none⟩ (.slice (some ⟨g1, 0, none⟩) n4 cap1)).frozen? ⟨g1, j * 5 + 3, none⟩ = false ∧
        ((w'.setCell ⟨M, 3, none⟩ (.slice (some ⟨g1, 0, none⟩) n4 cap1)).setCell ⟨g1, j * 5 + 3, none⟩ (.int .i64 (-1))).cell? ⟨M, 0, none⟩ = some (.slice a1 n1 c1) ∧ ((w'.setCell ⟨M, 3, none⟩ (.slice (some ⟨g1, 0, none⟩) n4 cap1)).setCell ⟨g1, j * 5 + 3, none⟩ (.int .i64 (-1))).cell? ⟨M, 1, none⟩ = some (.slice a2 n2 c2) ∧ ((w'.setCell ⟨M, 3, none⟩ (.slice (some ⟨g1, 0, none⟩) n4 cap1)).setCell ⟨g1, j * 5 + 3, none⟩ (.int .i64 (-1))).cell? ⟨M, 2, none⟩ = some (.slice (some ⟨g0, off, none⟩) n3 c3) ∧ ((w'.setCell ⟨M, 3, none⟩ (.slice (some ⟨g1, 0, none⟩) n4 cap1)).setCell ⟨g1, j * 5 + 3, none⟩ (.int .i64 (-1))).cell? ⟨M, 3, none⟩ = some (.slice (some ⟨g1, 0, none⟩) n4 cap1) ∧ Below w.heap.size w ((w'.setCell ⟨M, 3, none⟩ (.slice (some ⟨g1, 0, none⟩) n4 cap1)).setCell ⟨g1, j * 5 + 3, none⟩ (.int .i64 (-1))) ∧ EDsAt ((w'.setCell ⟨M, 3, none⟩ (.slice (some ⟨g1, 0, none⟩) n4 cap1)).setCell ⟨g1, j * 5 + 3, none⟩ (.int .i64 (-1))) (some ⟨g1, 0, none⟩) (lost r j).ed ∧
        Hid (∀ w9, Below ((w'.setCell ⟨M, 3, none⟩ (.slice (some ⟨g1, 0, none⟩) n4 cap1)).setCell ⟨g1, j * 5 + 3, none⟩ (.int .i64 (-1))).heap.size ((w'.setCell ⟨M, 3, none⟩ (.slice (some ⟨g1, 0, none⟩) n4 cap1)).setCell ⟨g1, j * 5 + 3, none⟩ (.int .i64 (-1))) w9 → w9.cell? ⟨P2, 0, none⟩ = some (.int .i64 3) ∧ w9.cell? ⟨P2, 1, none⟩ = some (.int .i64 n3) ∧ w9.frozen? ⟨P2, 0, none⟩ = false ∧ w9.frozen? ⟨P2, 1, none⟩ = false) := by
      intro v' w' hown hgrow
      simp only [Nat.zero_add, List.nil_append] at hown
      obtain ⟨g1, cap1, rfl, hg1, hg1l⟩ := hown.form (by omega)
      have hB' : Below W4.heap.size W4 w' := below_grown (B := W4.heap.size) (W := W4) (below_new _ _) hgrow (Nat.le_refl _) (Nat.le_refl _)
      have hf' := hfs.below hB'
      have hgM : g1 ≠ M := by omega
      have hgP2 : g1 ≠ P2 := by omega
      have hgP : g1 ≠ P := by have := World.block_lt_of_cell? _ _ hfs.p0; simp at this; omega
      have hQ' : w'.heap[P2]? = some (.cells #[.int .i64 3, .int .i64 n3] 31) := (hB'.block P2 hPl).trans hQ
      have hf14 := hf'.set3 (.slice (some ⟨g1, 0, none⟩) n4 cap1)
      have hown14 := own_setCell hown (M := M) (j := 3) (u := .slice (some ⟨g1, 0, none⟩) n4 cap1) (by simp [Value.ownBlock]; exact hgM)
      have hcj : (w'.setCell ⟨M, 3, none⟩ (.slice (some ⟨g1, 0, none⟩) n4 cap1)).cell? ⟨g1, j * 5 + 3, none⟩ = some (.int .i64 (r.ed.getD j default).tt) := by
        rw [hown14.cellAt (j * 5 + 3) (by omega), rowE, flat_at cellsE 5 (fun _ => rfl) r.ed j 3 (by omega) (by omega)]
        rfl
      have hfj := hown14.frozenAt (j * 5 + 3)
      have hown15 := (hown14.stored (j * 5 + 3) (.int .i64 (-1))).1
      rw [set_flat r.ed j (by omega)] at hown15
      have hf15 := hf14.far (g := g1) (j := j * 5 + 3) (.int .i64 (-1)) (by have := hfs.bel.size; have := hfs.lt; omega) hgP hgM
      have hle : (r.ed.set j (lostE (r.ed.getD j default))).length = n4 := by simp [l4]
      have hed : EDsAt ((w'.setCell ⟨M, 3, none⟩ (.slice (some ⟨g1, 0, none⟩) n4 cap1)).setCell ⟨g1, j * 5 + 3, none⟩ (.int .i64 (-1))) (some ⟨g1, 0, none⟩) (lost r j).ed := edges_of (L := r.ed.set j (lostE (r.ed.getD j default))) (base := W4.heap.size) (cap := cap1) (by rw [hle]; exact hown15) (set_oks (by omega) (fun i hi => (h4'.oks i hi).below hf15.bel))
      have hQ15 : ((w'.setCell ⟨M, 3, none⟩ (.slice (some ⟨g1, 0, none⟩) n4 cap1)).setCell ⟨g1, j * 5 + 3, none⟩ (.int .i64 (-1))).heap[P2]? = some (.cells #[.int .i64 3, .int .i64 n3] 31) := by
        rw [Below.heap_setCell _ _ _ _ (Ne.symm hgP2), Below.heap_setCell _ _ _ _ hPM]
        exact hQ'
      have hPl15 := (Array.getElem?_eq_some_iff.1 hQ15).1
      refine ⟨g1, cap1, rfl, hf'.m3, hf'.mf 3, hf14.m3, hcj, hfj, hf15.m0, hf15.m1, hf15.m2, hf15.m3, hf15.bel, hed, fun w9 hb => ?_⟩
      have hq := (hb.block P2 hPl15).trans hQ15
      exact ⟨by simp [World.cell?, hq], by simp [World.cell?, hq], by simp [World.frozen?, hq], by simp [World.frozen?, hq]⟩
    replace pack : Hid _ := pack
    have x3 := hfA.r3
    clear hQ hfs h4' hPl hfA
    go_wp2_with (first
      | (at_builtin; refine wpList_append_own_at _ rfl _ _ 26 rfl W4.heap.size 46 i0 _ 5 64 Tryd.underlying26 hi0 hz0 hz1 hz2 rfl (by decide) _ _ _ rfl own0 ⟨g4, off4, none⟩ n4 c4 (rowE r.ed) rfl hnl hnc (flat_one cellsE oneE r.ed) (by unfold maxLen; omega) (by omega) (by simp) ?_; intro v' w' hown hgrow hnil hat; obtain ⟨g1, cap1, rfl, cM3, fM3, bM3, hcj, hfj, kk0, kk1, kk2, kk3, hbl, hed, fin⟩ := pack.out _ _ hown hgrow; clear hown hgrow hnil hat)
      | (go_at_call 11; refine Calls.mono (hE1.out _ hbl g1 cap1 hed) ?_; rintro e w9 ⟨rfl, hb9⟩; obtain ⟨e0, e1, e2, e3⟩ := fin.out _ hb9))
    go_returns
    exact ⟨by simp, ((hbl.trans (hb9.mono hbl.size)).setCell (Nat.le_of_lt hP0) _).setCell (Nat.le_of_lt hP0) _⟩
end Go.Proofs.YtmioohbailhppaaDoor
