/-
  Check of the program, whatever it is handed.
-/
import Derived.Test.YtmioohbailhppaaDoorChk0
import Derived.Test.YtmioohbailhppaaDoorFrm
import Derived.ScopeJumps
import Derived.Deep.RegionWith
import Derived.Deep.DeepCutAuto
namespace Go.Proofs.YtmioohbailhppaaDoor
open Go.RowKit Go.Sort
set_option linter.unusedSimpArgs false
set_option linter.unusedVariables false

/-- What stands where the record that may not be is told. -/
structure JW (w0 wr : World) (pt at_ : Int) : Prop where
  bel : Below w0.heap.size w0 wr
  p0 : wr.cell? ⟨w0.heap.size + 1, 0, none⟩ = some (.int .i64 0)
  p1 : wr.cell? ⟨w0.heap.size + 1, 1, none⟩ = some (.int .i64 0)
  pf : ∀ j, wr.frozen? ⟨w0.heap.size + 1, j, none⟩ = false
  t0 : wr.cell? ⟨w0.heap.size + 2, 0, none⟩ = some (.int .i64 pt)
  t1 : wr.cell? ⟨w0.heap.size + 2, 1, none⟩ = some (.int .i64 at_)
def JJ (r : RW) (w : World) (a' : Act) (w' : World) : Prop := ∃ (E pt at_ : Int) (t : Array Value), a' = { tmps := t, defers := [] } ∧ t.size = 86 ∧ t.getD 2 undef = .pointer (some ⟨w.heap.size + 1, 0, none⟩) ∧ t.getD 4 undef = .pointer (some ⟨w.heap.size + 2, 0, none⟩) ∧ t.getD 5 undef = .int .i64 E ∧ chk r = (pt, at_, E) ∧ JW w w' pt at_
theorem CK.jw {w0 wr : World} {r0 r1 r2 r3 : Value} {sN mN sE mE : Nat} {a1 : Option Addr} {n1 c1 : Nat} {a2 : Option Addr} {n2 c2 : Nat} {nids eids : List Int} {pt at_ : Int} (h : CK w0 wr r0 r1 r2 r3 sN mN sE mE a1 n1 c1 a2 n2 c2 nids eids pt at_) : JW w0 wr pt at_ := ⟨h.bel, h.p0, h.p1, h.pf, h.t0, h.t1⟩
theorem nIds_len (r : RW) (k : Nat) : (nIds r k).length ≤ k := by
  unfold nIds
  simp
  omega
theorem eIds_len (r : RW) (k : Nat) : (eIds r k).length ≤ k := by
  unfold eIds
  simp
  omega
/-- What Check begins with. -/
theorem CK.start (w : World) (r0 r1 r2 r3 : Value) (wx wy : World) (a1 : Option Addr) (n1 c1 : Nat) (a2 : Option Addr) (n2 c2 : Nat) (sN mN sE mE : Nat) (hx : Below (((w.alloc (.cells #[r0, r1, r2, r3] 28)).alloc (.cells #[.int .i64 0, .int .i64 0] 31)).alloc (.cells #[.int .i64 0, .int .i64 0] 31)).heap.size (((w.alloc (.cells #[r0, r1, r2, r3] 28)).alloc (.cells #[.int .i64 0, .int .i64 0] 31)).alloc (.cells #[.int .i64 0, .int .i64 0] 31)) wy)
    (sn : SeenAt wy sN mN a1 n1 c1 []) (se : SeenAt wy sE mE a2 n2 c2 []) (gN : w.heap.size + 2 < mN) (gE : w.heap.size + 2 < mE) (hN : w.heap.size + 2 < sN) (hE : w.heap.size + 2 < sE) (e1 : sN ≠ mN) (e2 : sE ≠ mE) (e3 : mN ≠ mE) (e4 : sN ≠ mE) (e5 : sE ≠ mN) :
    CK w wy r0 r1 r2 r3 sN mN sE mE a1 n1 c1 a2 n2 c2 [] [] 0 0 := by
  have z1 : (w.alloc (.cells #[r0, r1, r2, r3] 28)).heap.size = w.heap.size + 1 := by simp
  have z2 : ((w.alloc (.cells #[r0, r1, r2, r3] 28)).alloc (.cells #[.int .i64 0, .int .i64 0] 31)).heap.size = w.heap.size + 2 := by simp
  have z3 : (((w.alloc (.cells #[r0, r1, r2, r3] 28)).alloc (.cells #[.int .i64 0, .int .i64 0] 31)).alloc (.cells #[.int .i64 0, .int .i64 0] 31)).heap.size = w.heap.size + 3 := by simp
  have y1 : wy.heap[w.heap.size]? = some (.cells #[r0, r1, r2, r3] 28) := by
    rw [hx.block _ (by omega), heap_alloc_old _ _ (by omega), heap_alloc_old _ _ (by omega)]
    exact heap_alloc_new _ _
  have y2 : wy.heap[w.heap.size + 1]? = some (.cells #[.int .i64 0, .int .i64 0] 31) := by
    rw [hx.block _ (by omega), heap_alloc_old _ _ (by omega), ← z1]
    exact heap_alloc_new _ _
  have y3 : wy.heap[w.heap.size + 2]? = some (.cells #[.int .i64 0, .int .i64 0] 31) := by
    rw [hx.block _ (by omega), ← z2]
    exact heap_alloc_new _ _
  refine ⟨below_on (below_on (below_on (below_new _ _) (below_new _ _)) (below_new _ _)) hx, ?_, ?_, ?_, ?_, ?_, ?_, ?_, ?_, ?_, ?_, sn, se, gN, gE, hN, hE, e1, e2, e3, e4, e5⟩
  all_goals first
    | (simp [World.cell?, y1]; done)
    | (simp [World.cell?, y2]; done)
    | (simp [World.cell?, y3]; done)
    | (intro j; simp [World.frozen?, y2]; done)
    | (intro j; simp [World.frozen?, y3]; done)

set_option maxRecDepth 100000 in
set_option maxHeartbeats 8000000 in
theorem Check_any (a1 : Option Addr) (n1 c1 : Nat) (a2 : Option Addr) (n2 c2 : Nat) (a3 : Option Addr) (n3 c3 : Nat) (a4 : Option Addr) (n4 c4 : Nat) (r : RW) (w : World)
    (l1 : r.nt.length = n1) (k1 : n1 ≤ c1) (m1 : c1 ≤ maxLen) (h1 : TDsAt w a1 r.nt) (l2 : r.et.length = n2) (k2 : n2 ≤ c2) (m2 : c2 ≤ maxLen) (h2 : TDsAt w a2 r.et)
    (l3 : r.nd.length = n3) (m3 : n3 < maxLen) (h3 : NDsAt w a3 r.nd) (l4 : r.ed.length = n4) (m4 : n4 < maxLen) (h4 : EDsAt w a4 r.ed) (hT : Tabs w) :
    Calls Tryd.prog 11 #[.agg #[.slice a1 n1 c1, .slice a2 n2 c2, .slice a3 n3 c3, .slice a4 n4 c4]] w fun e w' => e = .returned (.tuple #[.agg #[.int .i64 (chk r).1, .int .i64 (chk r).2.1], .int .i64 (chk r).2.2]) ∧ Below w.heap.size w w' := by
  have b1 : n1 ≤ 9223372036854775807 := by unfold maxLen at m1; omega
  have b2 : n2 ≤ 9223372036854775807 := by unfold maxLen at m2; omega
  have b3 : n3 ≤ 9223372036854775807 := by unfold maxLen at m3; omega
  have b4 : n4 ≤ 9223372036854775807 := by unfold maxLen at m4; omega
  go_enter Tryd.func11, Tryd.ntmps11
  go_wp2_with fail
  refine wp_scope_jumps 0 (JJ r w) (fun _ _ => 0) rfl ?_ ?_
  case refine_2 =>
    rintro a' w' ⟨E, pt, at_, t, rfl, hs, g2, g4, g5, hc, hj⟩
    obtain ⟨u, rfl⟩ := frame86 t hs
    obtain ⟨bel, p0, p1, pf, t0, t1⟩ := hj
    replace g2 : u 2 = .pointer (some ⟨w.heap.size + 1, 0, none⟩) := g2
    replace g4 : u 4 = .pointer (some ⟨w.heap.size + 2, 0, none⟩) := g4
    replace g5 : u 5 = .int .i64 E := g5
    rw [g2, g4, g5]
    clear g2 g4 g5 hs
    have pf0 := pf 0
    have pf1 := pf 1
    go_wp2_with fail
    simp only [Exit.jump]
    change bodyPost Tryd.prog Tryd.f11 _ _ _ _
    have s0 : ((w'.setCell ⟨w.heap.size + 1, 0, none⟩ (.int .i64 pt)).setCell ⟨w.heap.size + 1, 1, none⟩ (.int .i64 at_)).cell? ⟨w.heap.size + 1, 0, none⟩ = some (.int .i64 pt) := by
      rw [World.cell?_setCell_other _ _ _ _ (by simp)]; exact World.cell?_setCell_same _ _ _ p0
    have s1 : ((w'.setCell ⟨w.heap.size + 1, 0, none⟩ (.int .i64 pt)).setCell ⟨w.heap.size + 1, 1, none⟩ (.int .i64 at_)).cell? ⟨w.heap.size + 1, 1, none⟩ = some (.int .i64 at_) :=
      World.cell?_setCell_same _ _ _ ((World.cell?_setCell_other _ _ _ _ (by simp)).trans p1)
    have sb : Below w.heap.size w ((w'.setCell ⟨w.heap.size + 1, 0, none⟩ (.int .i64 pt)).setCell ⟨w.heap.size + 1, 1, none⟩ (.int .i64 at_)) := (bel.setCell (by simp) _).setCell (by simp) _
    generalize (w'.setCell ⟨w.heap.size + 1, 0, none⟩ (.int .i64 pt)).setCell ⟨w.heap.size + 1, 1, none⟩ (.int .i64 at_) = w2 at s0 s1 sb ⊢
    refine bodyPost_ret (by simp [results, Tryd.results11, go_sem, s0, s1]; try rfl) rfl ?_
    rw [hc]
    exact ⟨rfl, sb⟩
  go_wp2_with fail
  have hst := fun wy sN mN sE mE hx sn se gN gE hN hE e1 e2 e3 e4 e5 => CK.start w (.slice a1 n1 c1) (.slice a2 n2 c2) (.slice a3 n3 c3) (.slice a4 n4 c4) wy wy a1 n1 c1 a2 n2 c2 sN mN sE mE hx sn se gN gE hN hE e1 e2 e3 e4 e5
  have hW3 : (((w.alloc (.cells #[.slice a1 n1 c1, .slice a2 n2 c2, .slice a3 n3 c3, .slice a4 n4 c4] 28)).alloc (.cells #[.int .i64 0, .int .i64 0] 31)).alloc (.cells #[.int .i64 0, .int .i64 0] 31)).heap.size = w.heap.size + 3 := by simp
  have c0 : (((w.alloc (.cells #[.slice a1 n1 c1, .slice a2 n2 c2, .slice a3 n3 c3, .slice a4 n4 c4] 28)).alloc (.cells #[.int .i64 0, .int .i64 0] 31)).alloc (.cells #[.int .i64 0, .int .i64 0] 31)).cell? ⟨w.heap.size, 0, none⟩ = some (.slice a1 n1 c1) := cell_keep _ (cell_keep _ (by simp only [World.cell?, heap_alloc_new]; simp))
  have c1' : (((w.alloc (.cells #[.slice a1 n1 c1, .slice a2 n2 c2, .slice a3 n3 c3, .slice a4 n4 c4] 28)).alloc (.cells #[.int .i64 0, .int .i64 0] 31)).alloc (.cells #[.int .i64 0, .int .i64 0] 31)).cell? ⟨w.heap.size, 1, none⟩ = some (.slice a2 n2 c2) := cell_keep _ (cell_keep _ (by simp only [World.cell?, heap_alloc_new]; simp))
  rw [show w.heap.size + 1 + 1 = w.heap.size + 2 from rfl]
  generalize (((w.alloc (.cells #[.slice a1 n1 c1, .slice a2 n2 c2, .slice a3 n3 c3, .slice a4 n4 c4] 28)).alloc (.cells #[.int .i64 0, .int .i64 0] 31)).alloc (.cells #[.int .i64 0, .int .i64 0] 31)) = W3 at hst hW3 c0 c1' ⊢
  have hcur : Below W3.heap.size W3 W3.drew := (Below.refl _ _).drew
  have keep : ∀ w', Below W3.heap.size W3 w' → w'.cell? ⟨w.heap.size, 0, none⟩ = some (.slice a1 n1 c1) ∧ w'.cell? ⟨w.heap.size, 1, none⟩ = some (.slice a2 n2 c2) := fun w' hb => ⟨(hb.cell (World.block_lt_of_cell? _ _ c0)).trans c0, (hb.cell (World.block_lt_of_cell? _ _ c1')).trans c1'⟩
  replace keep : Hid _ := keep
  replace hst : Hid _ := hst
  go_cut [6, 7] (fun v6 v7 wx => ∃ sN mN sE mE, v6 = .pointer (some ⟨sN, 0, none⟩) ∧ v7 = .pointer (some ⟨sE, 0, none⟩) ∧ CK w wx (.slice a1 n1 c1) (.slice a2 n2 c2) (.slice a3 n3 c3) (.slice a4 n4 c4) sN mN sE mE a1 n1 c1 a2 n2 c2 [] [] 0 0)
  case first =>
    go_region_with (first
      | (go_at_call 21; refine Calls.mono (newSeen_any a1 n1 c1 _) ?_; rintro e wN ⟨rfl, sN1, bN, zN⟩; replace hcur := below_on hcur bN; obtain ⟨kA, kB⟩ := keep.out _ hcur)
      | (go_at_call 21; refine Calls.mono (newSeen_any a2 n2 c2 _) ?_; rintro e wE ⟨rfl, sE1, bE, zE⟩; replace hcur := below_on hcur bE; obtain ⟨kC, kD⟩ := keep.out _ hcur))
    all_goals
      have eW : W3.drew.heap.size = w.heap.size + 3 := hW3
      go_wp2_with fail
      go_meet
      case rel =>
        first
          | exact ⟨w.heap.size + 3 + 1, w.heap.size + 3, w.heap.size + 3 + 2 + 1, w.heap.size + 3 + 2, rfl, rfl, hst.out wE _ _ _ _ hcur (by rw [← eW]; exact sN1.below bE) (by rw [← eW, ← zN]; exact sE1) (by omega) (by omega) (by omega) (by omega) (by omega) (by omega) (by omega) (by omega) (by omega)⟩
          | exact ⟨w.heap.size + 3 + 2 + 1, w.heap.size + 3 + 2, w.heap.size + 3 + 1, w.heap.size + 3, rfl, rfl, hst.out wN _ _ _ _ hcur (by rw [← eW, ← zE]; exact sN1) (by rw [← eW]; exact sE1.below bN) (by omega) (by omega) (by omega) (by omega) (by omega) (by omega) (by omega) (by omega) (by omega)⟩
  case rest =>
    obtain ⟨sN, mN, sE, mE, rfl, rfl, hck⟩ := hcut
    clear hst keep hcur c0 c1' hW3
    have q0 := hck.r0
    go_wp2_with fail
    go_loopw [23] (fun v wr => ∃ (j : Nat) (pt at_ : Int), j ≤ n1 ∧ v = .int .i64 j ∧ CK w wr (.slice a1 n1 c1) (.slice a2 n2 c2) (.slice a3 n3 c3) (.slice a4 n4 c4) sN mN sE mE a1 n1 c1 a2 n2 c2 [] [] pt at_ ∧ ∀ k, k < j → typeErr r.nt k = 0) (fun v _ => n1 - (intOf v).toNat)
    case atStart => exact ⟨0, 0, 0, by omega, rfl, hck, by simp⟩
    case round =>
      clear q0 hck
      obtain ⟨j, pt, at_, j1, rfl, hck, hz⟩ := hrel
      by_cases hj : j < n1
      · have hY := fun w' (hb : Below w.heap.size w w') => checkType_any a1 n1 c1 r.nt j w' l1 k1 m1 (h1.below hb) hj
        have q0 := hck.r0
        by_cases hE : typeErr r.nt j = 0
        · rw [hE] at hY
          replace hY : Hid _ := hY
          replace hz : Hid _ := hz
          replace hE : Hid _ := hE
          go_wp2_with (go_at_call 22; refine Calls.mono (hY.out _ hck.bel) ?_; rintro e w1 ⟨rfl, hb1⟩; have hck1 := hck.below hb1; have d0 := hck1.t0; have d1 := hck1.t1; have d2 := hck1.tf 0; have d3 := hck1.tf 1)
          go_roundw
          case rel => exact ⟨j + 1, 1, j, by omega, rfl, hck1.place 1 j, fun k hk => by rcases Nat.lt_succ_iff_lt_or_eq.1 hk with h | rfl; exact hz.out k h; exact hE.out⟩
          case measure =>
            show n1 - ((j : Int) + 1).toNat < n1 - (j : Int).toNat
            omega
        · have hchk : chk r = (1, (j : Int), typeErr r.nt j) := by
            unfold chk
            rw [firstBad_some (by omega) hz hE]
          generalize typeErr r.nt j = E at hY hE hchk
          have htb : (E != 0) = true := by simpa using hE
          replace hY : Hid _ := hY
          replace hz : Hid _ := hz
          replace hchk : Hid _ := hchk
          clear hE
          go_wp2_with (go_at_call 22; refine Calls.mono (hY.out _ hck.bel) ?_; rintro e w1 ⟨rfl, hb1⟩; have hck1 := hck.below hb1; have d0 := hck1.t0; have d1 := hck1.t1; have d2 := hck1.tf 0; have d3 := hck1.tf 1)
          go_step3
          exact ⟨rfl, E, 1, j, _, rfl, rfl, rfl, rfl, rfl, hchk.out, (hck1.place 1 j).jw⟩
      · have hz1 : ∀ k, k < r.nt.length → typeErr r.nt k = 0 := fun k hk => hz k (by omega)
        have hF1 := few_of r.nt hz1
        have q0 := hck.r1
        replace hz1 : Hid _ := hz1
        replace hF1 : Hid _ := hF1
        clear hz
        go_wp2_with fail
        replace hz1 := hz1.out
        replace hF1 := hF1.out
        go_loopw [38] (fun v wr => ∃ (j : Nat) (pt at_ : Int), j ≤ n2 ∧ v = .int .i64 j ∧ CK w wr (.slice a1 n1 c1) (.slice a2 n2 c2) (.slice a3 n3 c3) (.slice a4 n4 c4) sN mN sE mE a1 n1 c1 a2 n2 c2 [] [] pt at_ ∧ ∀ k, k < j → typeErr r.et k = 0) (fun v _ => n2 - (intOf v).toNat)
        case atStart => exact ⟨0, _, _, by omega, rfl, hck, by simp⟩
        case round =>
          clear q0 hck
          obtain ⟨j, pt, at_, j1, rfl, hck, hz⟩ := hrel
          by_cases hj : j < n2
          · have hY := fun w' (hb : Below w.heap.size w w') => checkType_any a2 n2 c2 r.et j w' l2 k2 m2 (h2.below hb) hj
            have q0 := hck.r1
            by_cases hE : typeErr r.et j = 0
            · rw [hE] at hY
              replace hY : Hid _ := hY
              replace hz : Hid _ := hz
              replace hE : Hid _ := hE
              go_wp2_with (go_at_call 22; refine Calls.mono (hY.out _ hck.bel) ?_; rintro e w1 ⟨rfl, hb1⟩; have hck1 := hck.below hb1; have d0 := hck1.t0; have d1 := hck1.t1; have d2 := hck1.tf 0; have d3 := hck1.tf 1)
              go_roundw
              case rel => exact ⟨j + 1, 2, j, by omega, rfl, hck1.place 2 j, fun k hk => by rcases Nat.lt_succ_iff_lt_or_eq.1 hk with h | rfl; exact hz.out k h; exact hE.out⟩
              case measure =>
                show n2 - ((j : Int) + 1).toNat < n2 - (j : Int).toNat
                omega
            · have hchk : chk r = (2, (j : Int), typeErr r.et j) := by
                unfold chk
                rw [firstBad_none hz1, firstBad_some (by omega) hz hE]
              generalize typeErr r.et j = E at hY hE hchk
              have htb : (E != 0) = true := by simpa using hE
              replace hY : Hid _ := hY
              replace hz : Hid _ := hz
              replace hchk : Hid _ := hchk
              clear hE
              go_wp2_with (go_at_call 22; refine Calls.mono (hY.out _ hck.bel) ?_; rintro e w1 ⟨rfl, hb1⟩; have hck1 := hck.below hb1; have d0 := hck1.t0; have d1 := hck1.t1; have d2 := hck1.tf 0; have d3 := hck1.tf 1)
              go_step3
              exact ⟨rfl, E, 2, j, _, rfl, rfl, rfl, rfl, rfl, hchk.out, (hck1.place 2 j).jw⟩
          · have hz2 : ∀ k, k < r.et.length → typeErr r.et k = 0 := fun k hk => hz k (by omega)
            have hF2 := few_of r.et hz2
            have q0 := hck.r2
            replace hz1 : Hid _ := hz1
            replace hF1 : Hid _ := hF1
            replace hz2 : Hid _ := hz2
            replace hF2 : Hid _ := hF2
            clear hz
            go_wp2_with fail
            replace hz1 := hz1.out
            replace hF1 := hF1.out
            replace hz2 := hz2.out
            replace hF2 := hF2.out
            go_loopw [53] (fun v wr => ∃ (j : Nat) (pt at_ : Int), j ≤ n3 ∧ v = .int .i64 j ∧ CK w wr (.slice a1 n1 c1) (.slice a2 n2 c2) (.slice a3 n3 c3) (.slice a4 n4 c4) sN mN sE mE a1 n1 c1 a2 n2 c2 (nIds r j) [] pt at_ ∧ ∀ k, k < j → nErr r k = 0) (fun v _ => n3 - (intOf v).toNat)
            case atStart => exact ⟨0, _, _, by omega, rfl, hck, by simp⟩
            case round =>
              clear q0 hck
              obtain ⟨j, pt, at_, j1, rfl, hck, hz⟩ := hrel
              by_cases hj : j < n3
              · rcases h3 with h0 | ⟨g, off, rfl, hx⟩
                · rw [h0] at l3; simp at l3; omega
                have hxj := hx j (by omega)
                have hEq : nErr r j = nodeErr r.nt (nIds r j) (r.nd.getD j default) := rfl
                have hsucc := nIds_succ r j (by omega)
                generalize r.nd.getD j default = X at hxj hEq hsucc
                obtain ⟨k0, k1', k2', iz, sz, ln, lm, ps⟩ := hxj
                have hY := fun w' (hc : CK w w' (.slice a1 n1 c1) (.slice a2 n2 c2) (.slice (some ⟨g, off, none⟩) n3 c3) (.slice a4 n4 c4) sN mN sE mE a1 n1 c1 a2 n2 c2 (nIds r j) [] pt at_) => checkNode_any w sN mN a1 n1 c1 r.nt (nIds r j) X w' hc.bel hc.sn hc.n1 (by have := hc.gN; omega) l1 b1 h1 hF1 (by have := nIds_len r j; unfold maxLen; omega) hT iz ln lm ps
                have g0 := (hck.bel.cell (World.block_lt_of_cell? _ _ k0)).trans k0
                have g1 := (hck.bel.cell (World.block_lt_of_cell? _ _ k1')).trans k1'
                have g2 := (hck.bel.cell (World.block_lt_of_cell? _ _ k2')).trans k2'
                have n0' : (wr.alloc (.cells #[.int .i64 X.id, .string X.lab, .slice X.p X.l X.c] 44)).cell? ⟨wr.heap.size, 0, none⟩ = some (.int .i64 X.id) := by simp only [World.cell?, heap_alloc_new]; simp
                have n1' : (wr.alloc (.cells #[.int .i64 X.id, .string X.lab, .slice X.p X.l X.c] 44)).cell? ⟨wr.heap.size, 1, none⟩ = some (.string X.lab) := by simp only [World.cell?, heap_alloc_new]; simp
                have n2' : (wr.alloc (.cells #[.int .i64 X.id, .string X.lab, .slice X.p X.l X.c] 44)).cell? ⟨wr.heap.size, 2, none⟩ = some (.slice X.p X.l X.c) := by simp only [World.cell?, heap_alloc_new]; simp
                have hbA := below_new wr (.cells #[.int .i64 X.id, .string X.lab, .slice X.p X.l X.c] 44)
                have hckA := hck.below hbA
                have q0 := hck.r2
                clear hx
                by_cases hE : nErr r j = 0
                · rw [hEq] at hE
                  have ht := node_zero hE
                  rw [hE] at hY
                  simp only [if_pos ht, ← hsucc] at hY
                  rw [← hEq] at hE
                  replace hY : Hid _ := hY
                  replace hz : Hid _ := hz
                  replace hE : Hid _ := hE
                  clear hEq hsucc ht
                  go_wp2_with (go_at_call 23; refine Calls.mono (hY.out _ hckA) ?_; rintro e w1 ⟨rfl, hset, hO⟩; have hck1 := hckA.takeN hO hset; have d0 := hck1.t0; have d1 := hck1.t1; have d2 := hck1.tf 0; have d3 := hck1.tf 1)
                  go_roundw
                  case rel => exact ⟨j + 1, 3, j, by omega, rfl, hck1.place 3 j, fun k hk => by rcases Nat.lt_succ_iff_lt_or_eq.1 hk with h | rfl; exact hz.out k h; exact hE.out⟩
                  case measure =>
                    show n3 - ((j : Int) + 1).toNat < n3 - (j : Int).toNat
                    omega
                · have hchk : chk r = (3, (j : Int), nErr r j) := by
                    unfold chk
                    rw [firstBad_none hz1, firstBad_none hz2, firstBad_some (by omega) hz hE]
                  rw [hEq] at hchk hE
                  generalize nodeErr r.nt (nIds r j) X = E at hY hE hchk
                  have htb : (E != 0) = true := by simpa using hE
                  replace hY : Hid _ := hY
                  replace hz : Hid _ := hz
                  replace hchk : Hid _ := hchk
                  clear hE hEq hsucc
                  go_wp2_with (go_at_call 23; refine Calls.mono (hY.out _ hckA) ?_; rintro e w1 ⟨rfl, hset, hO⟩; have hck1 := hckA.takeN hO hset; have d0 := hck1.t0; have d1 := hck1.t1; have d2 := hck1.tf 0; have d3 := hck1.tf 1)
                  go_step3
                  exact ⟨rfl, E, 3, j, _, rfl, rfl, rfl, rfl, rfl, hchk.out, (hck1.place 3 j).jw⟩
              · have hz3 : ∀ k, k < r.nd.length → nErr r k = 0 := fun k hk => hz k (by omega)
                have hjn : j = n3 := by omega
                rw [hjn] at hck
                have q0 := hck.r3
                replace hz1 : Hid _ := hz1
                replace hF1 : Hid _ := hF1
                replace hz2 : Hid _ := hz2
                replace hF2 : Hid _ := hF2
                replace hz3 : Hid _ := hz3
                clear hz hjn
                go_wp2_with fail
                replace hz1 := hz1.out
                replace hF1 := hF1.out
                replace hz2 := hz2.out
                replace hF2 := hF2.out
                replace hz3 := hz3.out
                go_loopw [69] (fun v wr => ∃ (j : Nat) (pt at_ : Int), j ≤ n4 ∧ v = .int .i64 j ∧ CK w wr (.slice a1 n1 c1) (.slice a2 n2 c2) (.slice a3 n3 c3) (.slice a4 n4 c4) sN mN sE mE a1 n1 c1 a2 n2 c2 (nIds r n3) (eIds r j) pt at_ ∧ ∀ k, k < j → eErr r k = 0) (fun v _ => n4 - (intOf v).toNat)
                case atStart => exact ⟨0, _, _, by omega, rfl, hck, by simp⟩
                case round =>
                  clear q0 hck
                  obtain ⟨j, pt, at_, j1, rfl, hck, hz⟩ := hrel
                  by_cases hj : j < n4
                  · rcases h4 with h0 | ⟨g, off, rfl, hx⟩
                    · rw [h0] at l4; simp at l4; omega
                    have hxj := hx j (by omega)
                    have hEq : eErr r j = edgeErr r.et (eIds r j) (nIds r n3) (r.ed.getD j default) := by unfold eErr; rw [l3]
                    have hsucc := eIds_succ r j (by omega)
                    generalize r.ed.getD j default = X at hxj hEq hsucc
                    obtain ⟨k0, k1', k2', k3', k4', iz, fz, tz, sz, ln, lm, ps⟩ := hxj
                    have hY := fun w' (hc : CK w w' (.slice a1 n1 c1) (.slice a2 n2 c2) (.slice a3 n3 c3) (.slice (some ⟨g, off, none⟩) n4 c4) sN mN sE mE a1 n1 c1 a2 n2 c2 (nIds r n3) (eIds r j) pt at_) => checkEdge_any w sE mE a2 n2 c2 r.et (eIds r j) sN mN a1 n1 c1 (nIds r n3) X w' hc.bel hc.se hc.sn hc.n2 hc.n4 hc.n3 (by have := hc.gE; omega) l2 b2 h2 hF2 (by have := eIds_len r j; unfold maxLen; omega) hT iz fz tz ln lm ps
                    have g0 := (hck.bel.cell (World.block_lt_of_cell? _ _ k0)).trans k0
                    have g1 := (hck.bel.cell (World.block_lt_of_cell? _ _ k1')).trans k1'
                    have g2 := (hck.bel.cell (World.block_lt_of_cell? _ _ k2')).trans k2'
                    have g3 := (hck.bel.cell (World.block_lt_of_cell? _ _ k3')).trans k3'
                    have g4 := (hck.bel.cell (World.block_lt_of_cell? _ _ k4')).trans k4'
                    have n0' : (wr.alloc (.cells #[.int .i64 X.id, .string X.lab, .int .i64 X.fr, .int .i64 X.tt, .slice X.p X.l X.c] 46)).cell? ⟨wr.heap.size, 0, none⟩ = some (.int .i64 X.id) := by simp only [World.cell?, heap_alloc_new]; simp
                    have n1' : (wr.alloc (.cells #[.int .i64 X.id, .string X.lab, .int .i64 X.fr, .int .i64 X.tt, .slice X.p X.l X.c] 46)).cell? ⟨wr.heap.size, 1, none⟩ = some (.string X.lab) := by simp only [World.cell?, heap_alloc_new]; simp
                    have n2' : (wr.alloc (.cells #[.int .i64 X.id, .string X.lab, .int .i64 X.fr, .int .i64 X.tt, .slice X.p X.l X.c] 46)).cell? ⟨wr.heap.size, 2, none⟩ = some (.int .i64 X.fr) := by simp only [World.cell?, heap_alloc_new]; simp
                    have n3' : (wr.alloc (.cells #[.int .i64 X.id, .string X.lab, .int .i64 X.fr, .int .i64 X.tt, .slice X.p X.l X.c] 46)).cell? ⟨wr.heap.size, 3, none⟩ = some (.int .i64 X.tt) := by simp only [World.cell?, heap_alloc_new]; simp
                    have n4' : (wr.alloc (.cells #[.int .i64 X.id, .string X.lab, .int .i64 X.fr, .int .i64 X.tt, .slice X.p X.l X.c] 46)).cell? ⟨wr.heap.size, 4, none⟩ = some (.slice X.p X.l X.c) := by simp only [World.cell?, heap_alloc_new]; simp
                    have hbA := below_new wr (.cells #[.int .i64 X.id, .string X.lab, .int .i64 X.fr, .int .i64 X.tt, .slice X.p X.l X.c] 46)
                    have hckA := hck.below hbA
                    have q0 := hck.r3
                    clear hx
                    by_cases hE : eErr r j = 0
                    · rw [hEq] at hE
                      have ht := edge_zero hE
                      rw [hE] at hY
                      simp only [if_pos ht, ← hsucc] at hY
                      rw [← hEq] at hE
                      replace hY : Hid _ := hY
                      replace hz : Hid _ := hz
                      replace hE : Hid _ := hE
                      clear hEq hsucc ht
                      go_wp2_with (go_at_call 24; refine Calls.mono (hY.out _ hckA) ?_; rintro e w1 ⟨rfl, hset, hO⟩; have hck1 := hckA.takeE hO hset; have d0 := hck1.t0; have d1 := hck1.t1; have d2 := hck1.tf 0; have d3 := hck1.tf 1)
                      go_roundw
                      case rel => exact ⟨j + 1, 4, j, by omega, rfl, hck1.place 4 j, fun k hk => by rcases Nat.lt_succ_iff_lt_or_eq.1 hk with h | rfl; exact hz.out k h; exact hE.out⟩
                      case measure =>
                        show n4 - ((j : Int) + 1).toNat < n4 - (j : Int).toNat
                        omega
                    · have hchk : chk r = (4, (j : Int), eErr r j) := by
                        unfold chk
                        rw [firstBad_none hz1, firstBad_none hz2, firstBad_none hz3, firstBad_some (by omega) hz hE]
                      rw [hEq] at hchk hE
                      generalize edgeErr r.et (eIds r j) (nIds r n3) X = E at hY hE hchk
                      have htb : (E != 0) = true := by simpa using hE
                      replace hY : Hid _ := hY
                      replace hz : Hid _ := hz
                      replace hchk : Hid _ := hchk
                      clear hE hEq hsucc
                      go_wp2_with (go_at_call 24; refine Calls.mono (hY.out _ hckA) ?_; rintro e w1 ⟨rfl, hset, hO⟩; have hck1 := hckA.takeE hO hset; have d0 := hck1.t0; have d1 := hck1.t1; have d2 := hck1.tf 0; have d3 := hck1.tf 1)
                      go_step3
                      exact ⟨rfl, E, 4, j, _, rfl, rfl, rfl, rfl, rfl, hchk.out, (hck1.place 4 j).jw⟩
                  · have hchk : chk r = (0, 0, 0) := by
                      unfold chk
                      rw [firstBad_none hz1, firstBad_none hz2, firstBad_none hz3, firstBad_none (fun k hk => hz k (by omega))]
                    have d0 := hck.p0
                    have d1 := hck.p1
                    have d2 := hck.pf 0
                    have d3 := hck.pf 1
                    replace hz : Hid _ := hz
                    replace hchk : Hid _ := hchk
                    replace hz1 : Hid _ := hz1
                    replace hz2 : Hid _ := hz2
                    replace hz3 : Hid _ := hz3
                    go_wp2_with fail
                    simp only [Exit.jump, Exit.inBlock, Exit.then]
                    change bodyPost Tryd.prog Tryd.f11 _ _ _ _
                    have s0 : ((wr.setCell ⟨w.heap.size + 1, 0, none⟩ (.int .i64 0)).setCell ⟨w.heap.size + 1, 1, none⟩ (.int .i64 0)).cell? ⟨w.heap.size + 1, 0, none⟩ = some (.int .i64 0) := by
                      rw [World.cell?_setCell_other _ _ _ _ (by simp)]; exact World.cell?_setCell_same _ _ _ d0
                    have s1 : ((wr.setCell ⟨w.heap.size + 1, 0, none⟩ (.int .i64 0)).setCell ⟨w.heap.size + 1, 1, none⟩ (.int .i64 0)).cell? ⟨w.heap.size + 1, 1, none⟩ = some (.int .i64 0) :=
                      World.cell?_setCell_same _ _ _ ((World.cell?_setCell_other _ _ _ _ (by simp)).trans d1)
                    have sb : Below w.heap.size w ((wr.setCell ⟨w.heap.size + 1, 0, none⟩ (.int .i64 0)).setCell ⟨w.heap.size + 1, 1, none⟩ (.int .i64 0)) := (hck.bel.setCell (by simp) _).setCell (by simp) _
                    generalize (wr.setCell ⟨w.heap.size + 1, 0, none⟩ (.int .i64 0)).setCell ⟨w.heap.size + 1, 1, none⟩ (.int .i64 0) = w2 at s0 s1 sb ⊢
                    refine bodyPost_ret (by simp [results, Tryd.results11, go_sem, s0, s1]; try rfl) rfl ?_
                    rw [hchk.out]
                    exact ⟨rfl, sb⟩
end Go.Proofs.YtmioohbailhppaaDoor
