/-
  Are two graphs alike: Same.
-/
import Derived.Test.YtmioohbailhppaaDoorSam
import Derived.Test.YtmioohbailhppaaDoorSty
import Derived.Test.YtmioohbailhppaaDoorSrg
import Derived.Lib.QuietBelow
import Derived.BigQuiet
import Derived.Deep.DeepCutAuto
namespace Go.Proofs.YtmioohbailhppaaDoor
open Go.RowKit Go.Sort
set_option linter.unusedSimpArgs false
set_option linter.unusedVariables false

/-- Properties that are alike, none with a path. -/
structure PsEq (L M : List PV) : Prop where
  len : M.length = L.length
  eq : ∀ i, i < L.length → pC (L.getD i default) = pC (M.getD i default)
  z1 : ∀ i, i < L.length → (L.getD i default).v.l = 0
  z2 : ∀ i, i < L.length → (M.getD i default).v.l = 0
structure NdEq (x y : ND) : Prop where
  id : y.id = x.id
  lab : y.lab = x.lab
  ps : PsEq x.ps y.ps
structure EdEq (x y : ED) : Prop where
  id : y.id = x.id
  lab : y.lab = x.lab
  fr : y.fr = x.fr
  tt : y.tt = x.tt
  ps : PsEq x.ps y.ps
theorem map_get {α β : Type} [Inhabited α] (f : α → β) (L M : List α) (h : L.map f = M.map f) (i : Nat) (hi : i < L.length) : f (L.getD i default) = f (M.getD i default) := by
  have hl : L.length = M.length := by simpa using congrArg List.length h
  have := congrArg (fun l => l[i]?) h
  simp only [List.getElem?_map, List.getElem?_eq_getElem hi, List.getElem?_eq_getElem (hl ▸ hi : i < M.length), Option.map_some, Option.some.injEq] at this
  simpa [List.getD, List.getElem?_eq_getElem hi, List.getElem?_eq_getElem (hl ▸ hi : i < M.length)] using this
theorem psSame {w : World} {x : ND} {y : ND} (hx : NDok w x) (hy : NDok w y) (h : PsEq x.ps y.ps) : Calls Tryd.prog 34 #[.slice x.p x.l x.c, .slice y.p x.l y.c] w fun e w' => e = .returned (.bool true) ∧ Below w.heap.size w w' :=
  sameProps_yes x.p x.l x.c x.ps y.p y.c y.ps w hx.ln (h.len.trans hx.ln) hx.lm hx.ps hy.ps (fun i hi => h.eq i (by rw [hx.ln]; exact hi)) (fun i hi => h.z1 i (by rw [hx.ln]; exact hi)) (fun i hi => h.z2 i (by rw [hx.ln]; exact hi))
theorem psSameE {w : World} {x : ED} {y : ED} (hx : EDok w x) (hy : EDok w y) (h : PsEq x.ps y.ps) : Calls Tryd.prog 34 #[.slice x.p x.l x.c, .slice y.p x.l y.c] w fun e w' => e = .returned (.bool true) ∧ Below w.heap.size w w' :=
  sameProps_yes x.p x.l x.c x.ps y.p y.c y.ps w hx.ln (h.len.trans hx.ln) hx.lm hx.ps hy.ps (fun i hi => h.eq i (by rw [hx.ln]; exact hi)) (fun i hi => h.z1 i (by rw [hx.ln]; exact hi)) (fun i hi => h.z2 i (by rw [hx.ln]; exact hi))
theorem EDAt.ok {w : World} {g o : Nat} {x : ED} (k : EDAt w g o x) : EDok w x := ⟨k.iz, k.fz, k.tz, k.sz, k.ln, k.lm, k.ps⟩
theorem NDAt.ok {w : World} {g o : Nat} {x : ND} (k : NDAt w g o x) : NDok w x := ⟨k.iz, k.sz, k.ln, k.lm, k.ps⟩
/-- Two blocks of five cells each, laid behind one another, later. -/
theorem two5 (w : World) (s1 s2 s3 s4 s5 u1 u2 u3 u4 u5 : Value) (t : TypeId) {w1 : World} (h : Below ((w.alloc (.cells #[s1, s2, s3, s4, s5] t)).alloc (.cells #[u1, u2, u3, u4, u5] t)).heap.size ((w.alloc (.cells #[s1, s2, s3, s4, s5] t)).alloc (.cells #[u1, u2, u3, u4, u5] t)) w1) :
    (w1.cell? ⟨w.heap.size, 0, none⟩ = some s1 ∧ w1.cell? ⟨w.heap.size, 1, none⟩ = some s2 ∧ w1.cell? ⟨w.heap.size, 2, none⟩ = some s3 ∧ w1.cell? ⟨w.heap.size, 3, none⟩ = some s4 ∧ w1.cell? ⟨w.heap.size, 4, none⟩ = some s5) ∧
    (w1.cell? ⟨w.heap.size + 1, 0, none⟩ = some u1 ∧ w1.cell? ⟨w.heap.size + 1, 1, none⟩ = some u2 ∧ w1.cell? ⟨w.heap.size + 1, 2, none⟩ = some u3 ∧ w1.cell? ⟨w.heap.size + 1, 3, none⟩ = some u4 ∧ w1.cell? ⟨w.heap.size + 1, 4, none⟩ = some u5) := by
  have hA : ((w.alloc (.cells #[s1, s2, s3, s4, s5] t)).alloc (.cells #[u1, u2, u3, u4, u5] t)).heap[w.heap.size]? = some (.cells #[s1, s2, s3, s4, s5] t) := by
    rw [(below_new (w.alloc (.cells #[s1, s2, s3, s4, s5] t)) _).block _ (by rw [size_new]; omega)]
    exact heap_alloc_new _ _
  have hB : ((w.alloc (.cells #[s1, s2, s3, s4, s5] t)).alloc (.cells #[u1, u2, u3, u4, u5] t)).heap[w.heap.size + 1]? = some (.cells #[u1, u2, u3, u4, u5] t) := by
    have := heap_alloc_new (w.alloc (.cells #[s1, s2, s3, s4, s5] t)) (.cells #[u1, u2, u3, u4, u5] t)
    rw [size_new] at this
    exact this
  have hs : ((w.alloc (.cells #[s1, s2, s3, s4, s5] t)).alloc (.cells #[u1, u2, u3, u4, u5] t)).heap.size = w.heap.size + 2 := by rw [size_new, size_new]
  have hA1 : w1.heap[w.heap.size]? = some (.cells #[s1, s2, s3, s4, s5] t) := (h.block _ (by rw [hs]; omega)).trans hA
  have hB1 : w1.heap[w.heap.size + 1]? = some (.cells #[u1, u2, u3, u4, u5] t) := (h.block _ (by rw [hs]; omega)).trans hB
  refine ⟨⟨?_, ?_, ?_, ?_, ?_⟩, ⟨?_, ?_, ?_, ?_, ?_⟩⟩
  all_goals first
    | (simp [World.cell?, hA1]; done)
    | (simp [World.cell?, hB1]; done)

set_option maxRecDepth 100000 in
set_option maxHeartbeats 8000000 in
theorem Same_yes (a1 : Option Addr) (n1 c1 : Nat) (a2 : Option Addr) (n2 c2 : Nat) (a3 : Option Addr) (n3 c3 : Nat) (a4 : Option Addr) (n4 c4 : Nat) (x : RW) (p1 : Option Addr) (d1 : Nat) (p2 : Option Addr) (d2 : Nat) (p3 : Option Addr) (d3 : Nat) (p4 : Option Addr) (d4 : Nat) (y : RW) (w : World) (hx : GrAt w a1 n1 c1 a2 n2 c2 a3 n3 c3 a4 n4 c4 x) (hy : GrAt w p1 n1 d1 p2 n2 d2 p3 n3 d3 p4 n4 d4 y)
    (et : x.nt.map tC = y.nt.map tC) (ee : x.et.map tC = y.et.map tC) (en : ∀ i, i < n3 → NdEq (x.nd.getD i default) (y.nd.getD i default)) (ed : ∀ i, i < n4 → EdEq (x.ed.getD i default) (y.ed.getD i default)) :
    Calls Tryd.prog 15 #[.agg #[.slice a1 n1 c1, .slice a2 n2 c2, .slice a3 n3 c3, .slice a4 n4 c4], .agg #[.slice p1 n1 d1, .slice p2 n2 d2, .slice p3 n3 d3, .slice p4 n4 d4]] w fun e w' => e = .returned (.bool true) ∧ Below w.heap.size w w' := by
  have hm1 : n1 ≤ maxLen := Nat.le_trans hx.k1 hx.m1
  have hm2 : n2 ≤ maxLen := Nat.le_trans hx.k2 hx.m2
  have b3 := hx.b3
  have b4 := hx.b4
  have hS1 := fun w' (hb : Below w.heap.size w w') => sameTypes_yes a1 n1 c1 x.nt p1 d1 y.nt w' hx.l1 hy.l1 hm1 (hx.h1.below hb) (hy.h1.below hb) (fun i hi => map_get tC _ _ et i (by rw [hx.l1]; exact hi))
  have hS2 := fun w' (hb : Below w.heap.size w w') => sameTypes_yes a2 n2 c2 x.et p2 d2 y.et w' hx.l2 hy.l2 hm2 (hx.h2.below hb) (hy.h2.below hb) (fun i hi => map_get tC _ _ ee i (by rw [hx.l2]; exact hi))
  have hb0 : Below w.heap.size w ((w.alloc (.cells #[.slice a1 n1 c1, .slice a2 n2 c2, .slice a3 n3 c3, .slice a4 n4 c4] 28)).alloc (.cells #[.slice p1 n1 d1, .slice p2 n2 d2, .slice p3 n3 d3, .slice p4 n4 d4] 28)) := below_on (below_new _ _) (below_new _ _)
  have hT4 := fun w' hb => two4 (w1 := w') w (.slice a1 n1 c1) (.slice a2 n2 c2) (.slice a3 n3 c3) (.slice a4 n4 c4) (.slice p1 n1 d1) (.slice p2 n2 d2) (.slice p3 n3 d3) (.slice p4 n4 d4) 28 hb
  replace hS1 : Hid _ := hS1
  replace hS2 : Hid _ := hS2
  obtain ⟨⟨v0, v1, v2, v3⟩, ⟨u0, u1, u2, u3⟩, -, -⟩ := hT4 _ (Below.refl _ _)
  replace hT4 : Hid _ := hT4
  go_enter Tryd.func15, Tryd.ntmps15
  go_upto_region 3 with (first
    | (go_at_call 33; with_reducible refine Calls.mono (hS1.out _ hb0) ?_; rintro e wA ⟨rfl, hx1⟩; have hcur := hx1; obtain ⟨⟨v0, v1, v2, v3⟩, ⟨u0, u1, u2, u3⟩, -, -⟩ := hT4.out _ hcur; clear hx1)
    | (go_at_call 33; with_reducible refine Calls.mono (hS2.out _ (below_on hb0 hcur)) ?_; rintro e wB ⟨rfl, hx2⟩; replace hcur := below_on hcur hx2; obtain ⟨⟨v0, v1, v2, v3⟩, ⟨u0, u1, u2, u3⟩, -, -⟩ := hT4.out _ hcur; clear hx2))
  have hbw := below_on hb0 hcur
  clear hT4 hcur hS1 hS2
  go_wp2_with fail
  all_goals try (exfalso; simp_all; done)
  go_loopw [7] (fun i wr => Below wB.heap.size wB wr ∧ ∃ j : Nat, j ≤ n3 ∧ i = .int .i64 j) (fun i _ => n3 - (intOf i).toNat)
  case atStart => exact ⟨Below.refl _ _, 0, by omega, rfl⟩
  case round =>
    obtain ⟨hb, j, j1, rfl⟩ := hrel
    have hbr := below_on hbw hb
    replace v2 := (hb.cell (World.block_lt_of_cell? _ _ v2)).trans v2
    replace v3 := (hb.cell (World.block_lt_of_cell? _ _ v3)).trans v3
    replace u2 := (hb.cell (World.block_lt_of_cell? _ _ u2)).trans u2
    replace u3 := (hb.cell (World.block_lt_of_cell? _ _ u3)).trans u3
    by_cases hj : j < n3
    · clear v3 u3 v0 v1 u0 u1
      rcases hx.h3.below hbr with h0 | ⟨g, o, ea, k1⟩
      · have := hx.l3; rw [h0] at this; simp at this; omega
      rcases hy.h3.below hbr with h0 | ⟨g', o', ep, k2⟩
      · have := hy.l3; rw [h0] at this; simp at this; omega
      have kx := k1 j (by rw [hx.l3]; exact hj)
      have ky := k2 j (by rw [hy.l3]; exact hj)
      have ej := en j hj
      generalize x.nd.getD j default = X at kx ej
      generalize y.nd.getD j default = Y at ky ej
      obtain ⟨e1, e2, e3⟩ := ej
      have el : Y.l = X.l := by rw [← kx.ln, ← ky.ln, e3.len]
      have cS : ∀ d os, Calls Tryd.prog 34 #[.slice X.p X.l X.c, .slice Y.p X.l Y.c] (grow (redrawn wr d) os) fun e w'' => e = .returned (.bool true) ∧ ∃ p : Regrown, w'' = grow (redrawn wr p.d) p.os := fun d os => Calls.regrown_of (psSame (kx.ok.below (below_regrown wr d os)) (ky.ok.below (below_regrown wr d os)) e3)
      obtain ⟨x0, x1, x2, _, _, _, _, _⟩ := kx
      obtain ⟨y0, y1, y2, _, _, _, _, _⟩ := ky
      rw [el] at y2
      rw [e1] at y0
      rw [e2] at y1
      rw [ea] at v2
      rw [ep] at u2
      have f0 := cell_regrown x0
      have f1 := cell_regrown x1
      have f2 := cell_regrown x2
      have g0 := cell_regrown y0
      have g1 := cell_regrown y1
      have g2 := cell_regrown y2
      have s0 := cell_regrown v2
      have s1 := cell_regrown u2
      have hjn : (j : Int) < (n3 : Int) := by omega
      clear e1 e2 e3 el en ed
      replace cS : Hid _ := cS
      go_wp2_with fail
      refine wp_region_quiet_below (by kernel_rfl) (by kernel_rfl) ?_
      repeat (first | go_big_quiet_step (with_reducible exact cS.out _ _) | quiet_step (with_reducible exact cS.out _ _))
      refine wpQuiet_nil ?_
      intro _ hw'
      obtain ⟨⟨dq, osq⟩, hw''⟩ := hw'
      subst hw''
      have hb5 := below_on hb (below_regrown wr dq osq)
      replace x0 := f0 dq osq
      replace y0 := g0 dq osq
      replace x1 := f1 dq osq
      replace y1 := g1 dq osq
      replace v2 := s0 dq osq
      replace u2 := s1 dq osq
      clear f0 f1 f2 g0 g1 g2 s0 s1 x2 y2 cS
      generalize grow (redrawn wr dq) osq = w3 at hb5 x0 y0 x1 y1 v2 u2 ⊢
      have f0 := cell_regrown x0
      have g0 := cell_regrown y0
      have f1 := cell_regrown x1
      have g1 := cell_regrown y1
      have s0 := cell_regrown v2
      have s1 := cell_regrown u2
      go_wp2_with fail
      refine wp_region_quiet_below (by kernel_rfl) (by kernel_rfl) ?_
      repeat (first | go_big_quiet_step (fail) | quiet_step (fail))
      refine wpQuiet_nil ?_
      intro _ hw'
      obtain ⟨⟨dr, osr⟩, hw''⟩ := hw'
      subst hw''
      have hb6 := below_on hb5 (below_regrown w3 dr osr)
      clear f0 g0 f1 g1 s0 s1 x0 y0 x1 y1 v2 u2
      generalize grow (redrawn w3 dr) osr = w4 at hb6 ⊢
      go_wp2_with fail
      all_goals try (exfalso; simp_all; done)
      exact ⟨⟨hb6, j + 1, by omega, rfl⟩, by show n3 - ((j : Int) + 1).toNat < n3 - (j : Int).toNat; omega⟩
    · clear v0 v1 u0 u1
      go_wp2_with fail
      go_loopw [9] (fun i wq => Below wr.heap.size wr wq ∧ ∃ j : Nat, j ≤ n4 ∧ i = .int .i64 j) (fun i _ => n4 - (intOf i).toNat)
      case atStart => exact ⟨Below.refl _ _, 0, by omega, rfl⟩
      case round =>
        obtain ⟨hbq, q, q1, rfl⟩ := hrel
        have hbs := below_on hbr hbq
        replace v3 := (hbq.cell (World.block_lt_of_cell? _ _ v3)).trans v3
        replace u3 := (hbq.cell (World.block_lt_of_cell? _ _ u3)).trans u3
        by_cases hq : q < n4
        · rcases hx.h4.below hbs with h0 | ⟨g, o, ea, k1⟩
          · have := hx.l4; rw [h0] at this; simp at this; omega
          rcases hy.h4.below hbs with h0 | ⟨g', o', ep, k2⟩
          · have := hy.l4; rw [h0] at this; simp at this; omega
          have kx := k1 q (by rw [hx.l4]; exact hq)
          have ky := k2 q (by rw [hy.l4]; exact hq)
          have ej := ed q hq
          generalize x.ed.getD q default = X at kx ej
          generalize y.ed.getD q default = Y at ky ej
          obtain ⟨e1, e2, e3, e4, e5⟩ := ej
          have el : Y.l = X.l := by rw [← kx.ln, ← ky.ln, e5.len]
          have cS := fun w' hb => psSameE (kx.ok.below (w' := w') hb) (ky.ok.below hb) e5
          obtain ⟨x0, x1, x2, x3, x4, _, _, _, _, _, _, _⟩ := kx
          obtain ⟨y0, y1, y2, y3, y4, _, _, _, _, _, _, _⟩ := ky
          rw [el] at y4
          rw [e1] at y0
          rw [e2] at y1
          rw [e3] at y2
          rw [e4] at y3
          rw [ea] at v3
          rw [ep] at u3
          replace ea : Hid _ := ea
          replace ep : Hid _ := ep
          clear e1 e2 e3 e4 e5 el en ed v2 u2
          have hqn : (q : Int) < (n4 : Int) := by omega
          have hbz := below_on (below_new wr (.cells #[.int .i64 X.id, .string X.lab, .int .i64 X.fr, .int .i64 X.tt, .slice X.p X.l X.c] 46)) (below_new _ (.cells #[.int .i64 X.id, .string X.lab, .int .i64 X.fr, .int .i64 X.tt, .slice Y.p X.l Y.c] 46))
          have hT5 := fun w' hb => two5 (w1 := w') wr (.int .i64 X.id) (.string X.lab) (.int .i64 X.fr) (.int .i64 X.tt) (.slice X.p X.l X.c) (.int .i64 X.id) (.string X.lab) (.int .i64 X.fr) (.int .i64 X.tt) (.slice Y.p X.l Y.c) 46 hb
          replace cS : Hid _ := cS
          have Ku3 := cell_keep (.cells #[.int .i64 X.id, .string X.lab, .int .i64 X.fr, .int .i64 X.tt, .slice X.p X.l X.c] 46) u3
          have Ky0 := cell_keep (.cells #[.int .i64 X.id, .string X.lab, .int .i64 X.fr, .int .i64 X.tt, .slice X.p X.l X.c] 46) y0
          have Ky1 := cell_keep (.cells #[.int .i64 X.id, .string X.lab, .int .i64 X.fr, .int .i64 X.tt, .slice X.p X.l X.c] 46) y1
          have Ky2 := cell_keep (.cells #[.int .i64 X.id, .string X.lab, .int .i64 X.fr, .int .i64 X.tt, .slice X.p X.l X.c] 46) y2
          have Ky3 := cell_keep (.cells #[.int .i64 X.id, .string X.lab, .int .i64 X.fr, .int .i64 X.tt, .slice X.p X.l X.c] 46) y3
          have Ky4 := cell_keep (.cells #[.int .i64 X.id, .string X.lab, .int .i64 X.fr, .int .i64 X.tt, .slice X.p X.l X.c] 46) y4
          go_upto_region 16 with fail
          generalize (wr.alloc (.cells #[.int .i64 X.id, .string X.lab, .int .i64 X.fr, .int .i64 X.tt, .slice X.p X.l X.c] 46)).alloc (.cells #[.int .i64 X.id, .string X.lab, .int .i64 X.fr, .int .i64 X.tt, .slice Y.p X.l Y.c] 46) = W at hbz hT5 ⊢
          obtain ⟨⟨r0, r1, r2, r3, r4⟩, ⟨t0, t1, t2, t3, t4⟩⟩ := hT5 _ (Below.refl _ _)
          replace hT5 : Hid _ := hT5
          clear x0 x1 x2 x3 x4 y0 y1 y2 y3 y4 Ku3 Ky0 Ky1 Ky2 Ky3 Ky4
          go_wp2_with (go_at_call 34; refine Calls.mono (cS.out _ hbz) ?_; rintro e w5 ⟨rfl, hx5⟩; obtain ⟨⟨r0, r1, r2, r3, r4⟩, ⟨t0, t1, t2, t3, t4⟩⟩ := hT5.out _ hx5)
          all_goals try (exfalso; simp_all; done)
          go_roundw
          case rel => exact ⟨below_on hbq (below_on hbz hx5), q + 1, by omega, rfl⟩
          case measure =>
            show n4 - ((q : Int) + 1).toNat < n4 - (q : Int).toNat
            omega
        · go_wp2_with fail
          go_returns
          exact ⟨by simp, hbs⟩
end Go.Proofs.YtmioohbailhppaaDoor
