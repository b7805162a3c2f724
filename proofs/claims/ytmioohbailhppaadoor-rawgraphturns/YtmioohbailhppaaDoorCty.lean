/-
  What is wrong with a type: checkType.
-/
import Derived.Test.YtmioohbailhppaaDoorIdx
import Derived.Test.YtmioohbailhppaaDoorNm
import Derived.Lib.QuietBelow
import Derived.BigQuiet
namespace Go.Proofs.YtmioohbailhppaaDoor
open Go.RowKit Go.Sort
set_option linter.unusedSimpArgs false
set_option linter.unusedVariables false

def kindB (k : Int) : Bool := decide (k = 1) || decide (k = 2) || decide (k = 3)
theorem mayDeclare_any (k : Int) (w : World) : Calls Tryd.prog 38 #[.int .i64 k] w fun e w' => e = .returned (.bool (kindB k)) ∧ w' = w := by
  have hl : kindB k = true ↔ (k = 1 ∨ k = 2 ∨ k = 3) := by simp [kindB, or_assoc]
  generalize kindB k = x at hl
  cases x
  all_goals
    simp only [reduceCtorEq, false_iff, true_iff] at hl
    go_enter Tryd.func38, Tryd.ntmps38
    go_wp2_with fail
    all_goals (go_returns; refine ⟨?_, rfl⟩; first | rfl | (exfalso; omega) | (simp_all; done) | (simp_all; omega))

/-- Is the property at a place one that may not be declared? -/
def badP (L : List PD) (j : Nat) : Bool := !nameB (L.getD j default).n || decide (0 ≤ firstAt (fun x => decide (x.n = (L.getD j default).n)) (L.take j)) || !kindB (L.getD j default).k
def anyBad (L : List PD) : Bool := (List.range L.length).any (badP L)
/-- What is wrong with the type at a place; 0: nothing. -/
def typeErr (L : List TD) (i : Nat) : Int :=
  if 64 ≤ i then 2 else if nameB (L.getD i default).n = false then 41 else if 0 ≤ firstAt (fun x => decide (x.n = (L.getD i default).n)) (L.take i) then 42 else if 32 < (L.getD i default).ps.length then 2 else if anyBad (L.getD i default).ps then 43 else 0
theorem anyBad_yes (L : List PD) (j : Nat) (hj : j < L.length) (h : badP L j = true) : anyBad L = true := by
  rw [anyBad, List.any_eq_true]
  exact ⟨j, by simpa using hj, h⟩
theorem anyBad_no (L : List PD) (h : ∀ j, j < L.length → badP L j = false) : anyBad L = false := by
  rw [anyBad, List.any_eq_false]
  intro j hj
  rw [h j (by simpa using hj)]
  simp
theorem take_getD {α : Type} [Inhabited α] (L : List α) (i j : Nat) (h : j < i) : (L.take i).getD j default = L.getD j default := by
  simp [List.getD, List.getElem?_take_of_lt h]
theorem PDsAt.take {w : World} {a : Option Addr} {L : List PD} (h : PDsAt w a L) (i : Nat) : PDsAt w a (L.take i) := by
  rcases h with rfl | ⟨g, off, e, h⟩
  · exact .inl (by simp)
  · refine .inr ⟨g, off, e, fun j hj => ?_⟩
    rw [List.length_take] at hj
    rw [take_getD L i j (by omega)]
    exact h j (by omega)
theorem TDsAt.take {w : World} {a : Option Addr} {L : List TD} (h : TDsAt w a L) (i : Nat) : TDsAt w a (L.take i) := by
  rcases h with rfl | ⟨g, off, e, h⟩
  · exact .inl (by simp)
  · refine .inr ⟨g, off, e, fun j hj => ?_⟩
    rw [List.length_take] at hj
    rw [take_getD L i j (by omega)]
    exact h j (by omega)

set_option maxRecDepth 100000 in
set_option maxHeartbeats 4000000 in
theorem checkType_any (a : Option Addr) (n c : Nat) (L : List TD) (i : Nat) (w : World) (hn : L.length = n) (hc : n ≤ c) (hm : c ≤ maxLen) (hL : TDsAt w a L) (hi : i < n) :
    Calls Tryd.prog 22 #[.slice a n c, .int .i64 i] w fun e w' => e = .returned (.int .i64 (typeErr L i)) ∧ Below w.heap.size w w' := by
  have hT : ∀ s w', Below w.heap.size w w' → Calls Tryd.prog 36 #[.slice a i c, .string s] w' fun e w'' => e = .returned (.int .i64 (firstAt (fun x => decide (x.n = s)) (L.take i))) ∧ Below w'.heap.size w' w'' := fun s w' hb =>
    typeAt_any a i c (L.take i) s w' (by simp; omega) (by omega) ((hL.below hb).take i)
  unfold maxLen at hm
  rcases hL with rfl | ⟨x, o, rfl, hx⟩
  · simp at hn; omega
  have hxi := hx i (by omega)
  unfold typeErr
  by_cases h64 : 64 ≤ i
  · rw [if_pos h64]
    go_enter Tryd.func22, Tryd.ntmps22
    go_wp2_with fail
    all_goals first | (exfalso; omega) | (go_returns; exact ⟨rfl, by go_grown⟩)
  rw [if_neg h64]
  generalize L.getD i default = X at *
  obtain ⟨k0, k1, sz, ln, lc, lm, hps⟩ := hxi
  unfold maxLen at lm
  have hN := fun w => Name_any X.n w sz
  have hb0 := below_new w (.cells #[.string X.n, .slice X.p X.l X.c] 51)
  have v0 : (w.alloc (.cells #[.string X.n, .slice X.p X.l X.c] 51)).cell? ⟨w.heap.size, 0, none⟩ = some (.string X.n) := by simp only [World.cell?, heap_alloc_new]; simp
  have v1 : (w.alloc (.cells #[.string X.n, .slice X.p X.l X.c] 51)).cell? ⟨w.heap.size, 1, none⟩ = some (.slice X.p X.l X.c) := by simp only [World.cell?, heap_alloc_new]; simp
  cases hnm : nameB X.n
  · rw [if_pos rfl]
    rw [hnm] at hN
    replace hN : Hid _ := hN
    go_enter Tryd.func22, Tryd.ntmps22
    go_wp2_with (go_at_call 9; refine Calls.mono (hN.out _) ?_; rintro e w1 ⟨rfl, hb1⟩)
    all_goals first | (exfalso; omega) | (go_returns; exact ⟨rfl, below_on hb0 hb1⟩)
  rw [if_neg (by simp)]
  rw [hnm] at hN
  replace hN : Hid _ := hN
  have hT2 := hT X.n
  clear hT
  generalize firstAt (fun x => decide (x.n = X.n)) (L.take i) = r at hT2 ⊢
  replace hT2 : Hid _ := hT2
  generalize hE : (if 0 ≤ r then (42 : Int) else if 32 < X.ps.length then 2 else if anyBad X.ps = true then 43 else 0) = E
  replace hE : Hid _ := hE
  clear hx
  go_enter Tryd.func22, Tryd.ntmps22
  go_wp2_with (go_at_call 9; refine Calls.mono (hN.out _) ?_; rintro e w1 ⟨rfl, hb1⟩)
  all_goals try (exfalso; omega)
  have hb2 := below_on hb0 hb1
  replace v0 := (hb1.cell (World.block_lt_of_cell? _ _ v0)).trans v0
  replace v1 := (hb1.cell (World.block_lt_of_cell? _ _ v1)).trans v1
  clear hb0 hb1 hN k0 k1
  generalize w.heap.size = B5 at v0 v1 ⊢
  have cT : ∀ d os, Calls Tryd.prog 36 #[.slice (some ⟨x, o, none⟩) i c, .string X.n] (grow (redrawn w1 d) os) fun e w'' => e = .returned (.int .i64 r) ∧ ∃ p : Regrown, w'' = grow (redrawn w1 p.d) p.os := fun d os => Calls.regrown_of (hT2.out _ (hb2.trans ((below_regrown w1 d os).mono hb2.size)))
  have e0 := cell_regrown v0
  replace cT : Hid _ := cT
  have hic : i ≤ c := by omega
  refine wp_region_quiet_below (by kernel_rfl) (by kernel_rfl) ?_
  repeat (first | go_big_quiet_step (exact cT.out _ _) | quiet_step (exact cT.out _ _))
  refine wpQuiet_nil ?_
  intro _ hw'
  obtain ⟨⟨dq, osq⟩, hw''⟩ := hw'
  subst hw''
  have hb3 : Below w.heap.size w (grow (redrawn w1 dq) osq) := hb2.trans ((below_regrown w1 dq osq).mono hb2.size)
  have f0 := cell_regrown v0 dq osq
  have f1 := cell_regrown v1 dq osq
  clear e0 cT v0 v1 hT2
  generalize grow (redrawn w1 dq) osq = w2 at *
  replace hE := hE.out
  by_cases hr : 0 ≤ r
  · rw [if_pos hr] at hE
    subst hE
    go_wp2_with fail
    all_goals first | (exfalso; omega) | (go_returns; exact ⟨rfl, hb3⟩)
  rw [if_neg hr] at hE
  by_cases hl : 32 < X.ps.length
  · rw [if_pos hl] at hE
    subst hE
    go_wp2_with fail
    all_goals first | (exfalso; omega) | (go_returns; exact ⟨rfl, hb3⟩)
  rw [if_neg hl] at hE
  replace hE : Hid _ := hE
  go_wp2_with fail
  all_goals try (exfalso; omega)
  clear hb2 hi hic
  go_loopw [32] (fun i wr => Below w2.heap.size w2 wr ∧ ∃ j : Nat, j ≤ X.l ∧ i = .int .i64 j ∧ ∀ k, k < j → badP X.ps k = false) (fun i _ => X.l - (intOf i).toNat)
  case atStart => exact ⟨Below.refl _ _, 0, by omega, rfl, by simp⟩
  case round =>
    obtain ⟨hb, j, j1, rfl, hz⟩ := hrel
    by_cases hj : j < X.l
    · have hpr := hps.below (below_on hb3 hb)
      have g0 := (hb.cell (World.block_lt_of_cell? _ _ f0)).trans f0
      have g1 := (hb.cell (World.block_lt_of_cell? _ _ f1)).trans f1
      have hP : ∀ s w', Below wr.heap.size wr w' → Calls Tryd.prog 37 #[.slice X.p j X.c, .string s] w' fun e w'' => e = .returned (.int .i64 (firstAt (fun x => decide (x.n = s)) (X.ps.take j))) ∧ Below w'.heap.size w' w'' := fun s w' hb =>
        propAt_any X.p j X.c (X.ps.take j) s w' (by simp; omega) (by unfold maxLen; omega) ((hpr.below hb).take j)
      rcases hpr with h0 | ⟨y, q, hy, hyy⟩
      · rw [h0] at ln; simp at ln; omega
      have hyj := hyy j (by omega)
      have hbj : badP X.ps j = (!nameB (X.ps.getD j default).n || decide (0 ≤ firstAt (fun x => decide (x.n = (X.ps.getD j default).n)) (X.ps.take j)) || !kindB (X.ps.getD j default).k) := rfl
      have hP2 := hP (X.ps.getD j default).n
      rw [hy] at hP2 g1
      generalize X.ps.getD j default = P at hyj hbj hP2
      obtain ⟨m0, m1, msz⟩ := hyj
      have hN := fun w => Name_any P.n w msz
      have hK := fun w => mayDeclare_any P.k w
      generalize nameB P.n = nm at hN hbj
      generalize kindB P.k = kb at hK hbj
      generalize firstAt (fun x => decide (x.n = P.n)) (X.ps.take j) = r2 at hP2 hbj
      have hbA := below_new wr (.cells #[.string P.n, .int .i64 P.k] 80)
      have q0 : (wr.alloc (.cells #[.string P.n, .int .i64 P.k] 80)).cell? ⟨wr.heap.size, 0, none⟩ = some (.string P.n) := by simp only [World.cell?, heap_alloc_new]; simp
      have q1 : (wr.alloc (.cells #[.string P.n, .int .i64 P.k] 80)).cell? ⟨wr.heap.size, 1, none⟩ = some (.int .i64 P.k) := by simp only [World.cell?, heap_alloc_new]; simp
      have t1 := cell_keep (.cells #[.string P.n, .int .i64 P.k] 80) g1
      have hjc : j ≤ X.c := by omega
      have hbad := anyBad_yes X.ps j (by omega)
      have hbit : nm = false ∨ nm = true ∧ 0 ≤ r2 ∨ nm = true ∧ ¬ 0 ≤ r2 ∧ kb = false ∨ nm = true ∧ ¬ 0 ≤ r2 ∧ kb = true := by cases nm <;> cases kb <;> simp <;> omega
      clear hP g0 hyy hps f0 f1
      replace hz : Hid _ := hz
      replace hN : Hid _ := hN
      replace hK : Hid _ := hK
      replace hP2 : Hid _ := hP2
      rcases hbit with rfl | ⟨rfl, hr2⟩ | ⟨rfl, hr2, rfl⟩ | ⟨rfl, hr2, rfl⟩
      iterate 3
        · have hB : Hid _ := hbad (by rw [hbj]; first | rfl | (simp [hr2]; done))
          clear hbj hbad
          go_wp2_with fail
          generalize hW0 : wr.alloc (.cells #[.string P.n, .int .i64 P.k] 80) = W0 at *
          clear hW0
          have cN : ∀ d os, Calls Tryd.prog 9 #[.string P.n] (grow (redrawn W0 d) os) fun e w'' => e = .returned (.bool _) ∧ ∃ p : Regrown, w'' = grow (redrawn W0 p.d) p.os := fun d os => Calls.regrown_of (hN.out _)
          have cP : ∀ d os, Calls Tryd.prog 37 #[.slice (some ⟨y, q, none⟩) j X.c, .string P.n] (grow (redrawn W0 d) os) fun e w'' => e = .returned (.int .i64 r2) ∧ ∃ p : Regrown, w'' = grow (redrawn W0 p.d) p.os := fun d os => Calls.regrown_of (hP2.out _ (hbA.trans ((below_regrown W0 d os).mono hbA.size)))
          have cK : ∀ d os, Calls Tryd.prog 38 #[.int .i64 P.k] (grow (redrawn W0 d) os) fun e w'' => e = .returned (.bool _) ∧ ∃ p : Regrown, w'' = grow (redrawn W0 p.d) p.os := fun d os => Calls.mono (hK.out _) fun e w'' ⟨h1, h2⟩ => ⟨h1, ⟨d, os⟩, h2⟩
          have e0 := cell_regrown q0
          have e1 := cell_regrown q1
          have e2 := cell_regrown t1
          replace cN : Hid _ := cN
          replace cP : Hid _ := cP
          replace cK : Hid _ := cK
          refine wp_region_quiet_below (by kernel_rfl) (by kernel_rfl) ?_
          repeat (first | go_big_quiet_step (first | exact cN.out _ _ | exact cP.out _ _ | exact cK.out _ _) | quiet_step (first | exact cN.out _ _ | exact cP.out _ _ | exact cK.out _ _))
          refine wpQuiet_nil ?_
          intro _ hw'
          obtain ⟨⟨dq, osq⟩, hw''⟩ := hw'
          subst hw''
          have hb5 : Below w2.heap.size w2 (grow (redrawn W0 dq) osq) := below_on hb (below_on hbA (below_regrown W0 dq osq))
          clear e0 e1 e2 cN cP cK hN hP2 hK q0 q1 t1
          generalize grow (redrawn W0 dq) osq = w3 at *
          go_wp2_with fail
          all_goals first | (exfalso; omega) | (go_returns; exact ⟨by rw [← hE.out, hB.out]; simp, below_on hb3 hb5⟩)
      · have hB : Hid (badP X.ps j = false) := hbj.trans (by simp [hr2])
        clear hbj hbad
        go_wp2_with fail
        generalize hW0 : wr.alloc (.cells #[.string P.n, .int .i64 P.k] 80) = W0 at *
        clear hW0
        have cN : ∀ d os, Calls Tryd.prog 9 #[.string P.n] (grow (redrawn W0 d) os) fun e w'' => e = .returned (.bool _) ∧ ∃ p : Regrown, w'' = grow (redrawn W0 p.d) p.os := fun d os => Calls.regrown_of (hN.out _)
        have cP : ∀ d os, Calls Tryd.prog 37 #[.slice (some ⟨y, q, none⟩) j X.c, .string P.n] (grow (redrawn W0 d) os) fun e w'' => e = .returned (.int .i64 r2) ∧ ∃ p : Regrown, w'' = grow (redrawn W0 p.d) p.os := fun d os => Calls.regrown_of (hP2.out _ (hbA.trans ((below_regrown W0 d os).mono hbA.size)))
        have cK : ∀ d os, Calls Tryd.prog 38 #[.int .i64 P.k] (grow (redrawn W0 d) os) fun e w'' => e = .returned (.bool _) ∧ ∃ p : Regrown, w'' = grow (redrawn W0 p.d) p.os := fun d os => Calls.mono (hK.out _) fun e w'' ⟨h1, h2⟩ => ⟨h1, ⟨d, os⟩, h2⟩
        have e0 := cell_regrown q0
        have e1 := cell_regrown q1
        have e2 := cell_regrown t1
        replace cN : Hid _ := cN
        replace cP : Hid _ := cP
        replace cK : Hid _ := cK
        refine wp_region_quiet_below (by kernel_rfl) (by kernel_rfl) ?_
        repeat (first | go_big_quiet_step (first | exact cN.out _ _ | exact cP.out _ _ | exact cK.out _ _) | quiet_step (first | exact cN.out _ _ | exact cP.out _ _ | exact cK.out _ _))
        refine wpQuiet_nil ?_
        intro _ hw'
        obtain ⟨⟨dq, osq⟩, hw''⟩ := hw'
        subst hw''
        have hb5 : Below w2.heap.size w2 (grow (redrawn W0 dq) osq) := below_on hb (below_on hbA (below_regrown W0 dq osq))
        clear e0 e1 e2 cN cP cK hN hP2 hK q0 q1 t1
        generalize grow (redrawn W0 dq) osq = w3 at *
        go_wp2_with fail
        rw [← hy]
        go_roundw
        case rel => exact ⟨hb5, j + 1, by omega, rfl, fun k hk => by rcases Nat.lt_succ_iff_lt_or_eq.1 hk with h | rfl; exact hz.out k h; exact hB.out⟩
        case measure =>
          show X.l - ((j : Int) + 1).toNat < X.l - (j : Int).toNat
          omega
    · have hf := anyBad_no X.ps fun k hk => hz k (by omega)
      replace hf : Hid _ := hf
      replace hz : Hid _ := hz
      go_wp2_with fail
      go_returns
      exact ⟨by rw [← hE.out, hf.out]; simp, below_on hb3 hb⟩
end Go.Proofs.YtmioohbailhppaaDoor
