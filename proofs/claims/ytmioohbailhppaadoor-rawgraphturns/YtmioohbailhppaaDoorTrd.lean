/-
  turned, whatever it is handed.
-/
import Derived.Test.YtmioohbailhppaaDoorTrd0
namespace Go.Proofs.YtmioohbailhppaaDoor
open Go.RowKit
set_option linter.unusedSimpArgs false
set_option linter.unusedVariables false

/-- What stands behind the loop over the nodes. -/
structure NR (w wr : World) (r0 r1 r2 r3 : Value) (L : List ND) (p : Option Addr) (n c : Nat) (M : List ND) : Prop where
  ts : TS w wr r0 r1 r2 r3 (.slice p n c) (.slice none 0 0)
  own : wr.ownsRow (w.heap.size + 3) 44 3 (.slice p n c) n (rowN M)
  len : M.length = n
  prm : M.Perm L

set_option maxRecDepth 100000 in
set_option maxHeartbeats 8000000 in
theorem turned_any (a1 : Option Addr) (n1 c1 : Nat) (a2 : Option Addr) (n2 c2 : Nat) (a3 : Option Addr) (n3 c3 : Nat) (a4 : Option Addr) (n4 c4 : Nat) (r : RW) (pa : Option Addr) (pn pc : Nat) (P : Nat → Nat) (da : Option Addr) (dn dc : Nat) (D : Nat → Nat) (w : World)
    (hG : GrAt w a1 n1 c1 a2 n2 c2 a3 n3 c3 a4 n4 c4 r) (hP : BsAt w pa pn P) (hpn : pn ≤ maxLen) (hD : BsAt w da dn D) (hdn : dn ≤ maxLen) :
    Calls Tryd.prog 16 #[.agg #[.slice a1 n1 c1, .slice a2 n2 c2, .slice a3 n3 c3, .slice a4 n4 c4], .slice pa pn pc, .slice da dn dc] w fun e w' => (∃ p3 m3 d3 p4 m4 d4 x, e = .returned (.agg #[.slice a1 n1 c1, .slice a2 n2 c2, .slice p3 m3 d3, .slice p4 m4 d4]) ∧ GrAt w' a1 n1 c1 a2 n2 c2 p3 m3 d3 p4 m4 d4 x ∧ x.nt = r.nt ∧ x.et = r.et ∧ x.nd.Perm r.nd ∧ (∃ S, S.Sublist r.ed ∧ x.ed.Perm S) ∧ (dn = 0 → x.ed.Perm r.ed)) ∧ Below w.heap.size w w' := by
  have b3 := hG.b3
  have b4 := hG.b4
  unfold maxLen at hpn hdn
  obtain ⟨i0, hi0, hz0, hz1, hz2⟩ := info_parts info44
  obtain ⟨i5, hi5, hy0, hy1, hy2⟩ := info_parts info46
  have hst := TS.new w (.slice a1 n1 c1) (.slice a2 n2 c2) (.slice a3 n3 c3) (.slice a4 n4 c4) 28
  replace hst : Hid _ := hst
  go_enter Tryd.func16, Tryd.ntmps16
  go_wp2_with fail
  replace hst := hst.out
  generalize (((w.alloc (.cells #[.slice a1 n1 c1, .slice a2 n2 c2, .slice a3 n3 c3, .slice a4 n4 c4] 28)).alloc (.cells #[.slice none 0 0, .slice none 0 0, .slice none 0 0, .slice none 0 0] 28)).alloc (.cells #[.slice a1 n1 c1, .slice a2 n2 c2, .slice none 0 0, .slice none 0 0] 28)) = W at hst ⊢
  rw [show w.heap.size + 1 + 1 = w.heap.size + 2 from rfl]
  go_loopw [8] (fun v8 wr => ∃ (j : Nat) (p : Option Addr) (c : Nat) (M : List ND), j ≤ n3 ∧ v8 = .int .i64 j ∧ TS w wr (.slice a1 n1 c1) (.slice a2 n2 c2) (.slice a3 n3 c3) (.slice a4 n4 c4) (.slice p j c) (.slice none 0 0) ∧ wr.ownsRow (w.heap.size + 3) 44 3 (.slice p j c) j (rowN M) ∧ M.length = j ∧ M.Perm (r.nd.take j)) (fun v8 _ => n3 - (intOf v8).toNat)
  case atStart => exact ⟨0, none, 0, [], by omega, rfl, hst, World.ownsRow_nil _ _ _ _, rfl, by simp⟩
  case round =>
    clear hst
    obtain ⟨j, p, cc, M, j1, rfl, hts, hown, hMl, hMp⟩ := hrel
    by_cases hj : j < n3
    · have q2 := hts.r.c2
      have o2 := hts.o.c2
      by_cases hjp : j < pn
      · obtain ⟨g9, f9, ep, cp⟩ := (hP.below hts.bel).at j hjp
        have hPj := hP.1 j
        generalize P j = u at cp hPj
        rw [ep]
        go_upto_region 7 with fail
        go_quiet (fail)
        have hbx := belowN (Below.refl wr.heap.size wr) nq
        generalize wr.drewN nq = wx at hbx ⊢
        rw [mod_nat]
        have hat : u % (j + 1) ≤ j := Nat.lt_succ_iff.1 (Nat.mod_lt _ (by omega))
        generalize u % (j + 1) = at_ at hat ⊢
        clear cp hPj
        go_upto_region 8 with fail
        replace ep : Hid _ := ep
        have hts2 := hts.below hbx
        have hownx := ownB hown hbx
        have hsx := hts2.sz
        have hlo : ∀ w', Below wx.heap.size wx w' → NewsAt w' 3 (.slice p at_ cc) at_ (rowN (M.take at_)) := fun w' hb => news_lo (cs := cellsN) (fun _ => rfl) (by decide) hMl (ownB hownx hb) at_ hat
        rcases hG.h3.below hts2.bel with h0 | ⟨g0, off, ea, kk⟩
        · have := hG.l3; rw [h0] at this; simp at this; omega
        have kx := kk j (by rw [hG.l3]; exact hj)
        have htk := List.take_succ_eq_append_getElem (l := r.nd) (i := j) (by rw [hG.l3]; exact hj)
        rw [← getD_get (show j < r.nd.length by rw [hG.l3]; exact hj)] at htk
        generalize r.nd.getD j default = X at kx htk
        obtain ⟨k0, k1, k2, _, _, _, _, _⟩ := kx
        have q2x := hts2.r.c2
        have o2x := hts2.o.c2
        rw [ea] at q2x
        have hkeep : ∀ w', Below wx.heap.size wx w' → (w'.cell? ⟨w.heap.size, 2, none⟩ = some (.slice (some ⟨g0, off, none⟩) n3 c3) ∧ w'.cell? ⟨w.heap.size + 2, 2, none⟩ = some (.slice p j cc) ∧ w'.frozen? ⟨w.heap.size + 2, 2, none⟩ = false) ∧ w'.cell? ⟨g0, off + j * 3, none⟩ = some (.int .i64 X.id) ∧ w'.cell? ⟨g0, off + j * 3 + 1, none⟩ = some (.string X.lab) ∧ w'.cell? ⟨g0, off + j * 3 + 2, none⟩ = some (.slice X.p X.l X.c) := fun w' hb => ⟨⟨(hb.cell (World.block_lt_of_cell? _ _ q2x)).trans q2x, (hts2.below hb).o.c2, (hts2.below hb).o.fr 2⟩, (hb.cell (World.block_lt_of_cell? _ _ k0)).trans k0, (hb.cell (World.block_lt_of_cell? _ _ k1)).trans k1, (hb.cell (World.block_lt_of_cell? _ _ k2)).trans k2⟩
        have hend : ∀ w' g' c', Below wx.heap.size wx w' → w'.ownsRow wx.heap.size 44 3 (.slice (some ⟨g', 0, none⟩) (j + 1) c') (j + 1) (rowN (putIn M at_ X)) → TS w (w'.setCell ⟨w.heap.size + 2, 2, none⟩ (.slice (some ⟨g', 0, none⟩) (j + 1) c')) (.slice a1 n1 c1) (.slice a2 n2 c2) (.slice a3 n3 c3) (.slice a4 n4 c4) (.slice (some ⟨g', 0, none⟩) (j + 1) c') (.slice none 0 0) ∧ (w'.setCell ⟨w.heap.size + 2, 2, none⟩ (.slice (some ⟨g', 0, none⟩) (j + 1) c')).ownsRow (w.heap.size + 3) 44 3 (.slice (some ⟨g', 0, none⟩) (j + 1) c') (j + 1) (rowN (putIn M at_ X)) ∧ (putIn M at_ X).length = j + 1 ∧ (putIn M at_ X).Perm (r.nd.take (j + 1)) := fun w' g' c' hb ho =>
          ⟨(hts2.below hb).put2 _, ownL (ownS ho _ (by show w.heap.size + 2 < wx.heap.size; omega)) hsx, by rw [putIn_len M at_ X (by omega), hMl], (putIn_perm M at_ X).trans (by rw [htk]; exact hMp.append_right [X])⟩
        have hrows : rowN (M.take at_) ++ cellsN X ++ rowN (M.drop at_) = rowN (putIn M at_ X) := by simp [rowN, putIn]
        obtain ⟨⟨y1, y2, y3⟩, y4, y5, y6⟩ := hkeep _ (below_new wx (.cells #[] 44))
        replace ea : Hid _ := ea
        replace hrows : Hid _ := hrows
        replace hend : Hid _ := hend
        replace hkeep : Hid _ := hkeep
        replace hlo : Hid _ := hlo
        replace htk : Hid _ := htk
        have hatI : (at_ : Int) ≤ (j : Int) := by omega
        have hjI : (j : Int) < (n3 : Int) := by omega
        clear k0 k1 k2 q2x o2x q2 o2 kk
        rcases own_row (cs := cellsN) (fun _ => rfl) hMl hownx with ⟨e1, e2, e3⟩ | ⟨gM, capM, e1, hgm1, hgm2, hgm3, hgm4, hOR⟩
        · simp only [Value.slice.injEq] at e1
          obtain ⟨rfl, -, rfl⟩ := e1
          have hhi : ∀ w' p' d, Below wx.heap.size wx w' → (p' = none ∧ d = 0) → NewsAt w' 3 (.slice p' (j - at_) d) (j - at_) (rowN (M.drop at_)) := fun w' p' d hb hp => by
            obtain ⟨rfl, rfl⟩ := hp
            exact .inl ⟨by rw [show j - at_ = 0 by omega], by omega, by rw [e3]; simp [rowN]⟩
          have hat0 : (at_ : Int) ≤ 0 := by omega
          have hat1 : at_ = 0 := by omega
          replace hhi : Hid _ := hhi
          replace e3 : Hid _ := e3
          replace e2 : Hid _ := e2
          replace hat1 : Hid _ := hat1
          clear hownx
          go_wp2_with (first
            | (at_builtin; refine wpList_append_any rfl _ _ 25 rfl wx.heap.size 44 i0 _ 3 48 Tryd.underlying25 hi0 hz0 hz1 hz2 rfl (by decide) _ 0 0 [] rfl (own_empty 3 (Nat.le_refl _) (heap_alloc_new _ _)) _ at_ (rowN (M.take at_)) rfl (hlo.out _ (below_new _ _)) (flat_one cellsN oneN _) (by unfold maxLen; omega) (by omega) (by simp) ?_; intro g1 cap1 w5 hown1 hgrow1; simp only [Nat.zero_add, List.nil_append] at hown1 ⊢; have hB5 : Below wx.heap.size wx w5 := below_grown (below_new _ _) hgrow1 (Nat.le_refl _) (Nat.le_refl _); obtain ⟨⟨y1, y2, y3⟩, y4, y5, y6⟩ := hkeep.out _ hB5)
            | (at_builtin; refine wpList_append_any rfl _ _ 25 rfl wx.heap.size 44 i0 _ 3 48 Tryd.underlying25 hi0 hz0 hz1 hz2 rfl (by decide) g1 cap1 at_ (rowN (M.take at_)) rfl (hown1.alloc _) _ 1 (cellsN X) rfl (news_block (heap_alloc_new _ _) rfl) (oneN X) (by unfold maxLen; omega) (by omega) (by have := hB5.size; simp; omega) ?_; intro g2 cap2 w6 hown2 hgrow2; have hB6 : Below wx.heap.size wx w6 := below_grown (hB5.alloc hB5.size _) hgrow2 (hown1.lt g1 rfl).1 (Nat.le_refl _); obtain ⟨⟨y1, y2, y3⟩, y4, y5, y6⟩ := hkeep.out _ hB6)
            | (at_builtin; refine wpList_append_any rfl _ _ 25 rfl wx.heap.size 44 i0 _ 3 48 Tryd.underlying25 hi0 hz0 hz1 hz2 rfl (by decide) g2 cap2 (at_ + 1) (rowN (M.take at_) ++ cellsN X) rfl hown2 _ (j - at_) (rowN (M.drop at_)) rfl (hhi.out _ _ _ hB6 (by first | exact ⟨rfl, rfl⟩ | exact .inr rfl | exact .inl ⟨rfl, by omega⟩ | (refine ⟨?_, by omega⟩; split <;> rfl) | (by_cases h : cc = at_; exact .inl ⟨if_pos h, by omega⟩; exact .inr (if_neg h)))) (flat_one cellsN oneN _) (by unfold maxLen; omega) (by omega) hB6.size ?_; rw [hrows.out, show at_ + 1 + (j - at_) = j + 1 by omega]; intro g3 cap3 w7 hown3 hgrow3; have hB7 : Below wx.heap.size wx w7 := below_grown hB6 hgrow3 (hown2.lt g2 rfl).1 (Nat.le_refl _); obtain ⟨⟨y1, y2, y3⟩, y4, y5, y6⟩ := hkeep.out _ hB7))
          all_goals
            go_roundw
            case rel => exact ⟨j + 1, _, _, _, by omega, by first | rfl | go_num | (congr 1; omega), hend.out w7 g3 cap3 hB7 hown3⟩
            case measure => simp [intOf]; omega
        · cases e1
          have hhi : ∀ w' p' d, Below wx.heap.size wx w' → ((p' = some ⟨gM, 0, none⟩ ∧ j ≤ at_) ∨ p' = some ⟨gM, at_ * 3, none⟩) → NewsAt w' 3 (.slice p' (j - at_) d) (j - at_) (rowN (M.drop at_)) := fun w' p' d hb hp => news_hi (cs := cellsN) (fun _ => rfl) (by decide) hMl (ownB hownx hb) at_ d hat (by rcases hp with ⟨rfl, h⟩ | rfl; exact .inr (.inl ⟨h, rfl⟩); exact .inr (.inr ⟨gM, rfl, rfl⟩))
          unfold maxLen at hgm4
          have hcI : (j : Int) ≤ (cc : Int) := by omega
          have hacI : (at_ : Int) ≤ (cc : Int) := by omega
          replace hhi : Hid _ := hhi
          clear hOR hownx
          go_wp2_with (first
            | (at_builtin; refine wpList_append_any rfl _ _ 25 rfl wx.heap.size 44 i0 _ 3 48 Tryd.underlying25 hi0 hz0 hz1 hz2 rfl (by decide) _ 0 0 [] rfl (own_empty 3 (Nat.le_refl _) (heap_alloc_new _ _)) _ at_ (rowN (M.take at_)) rfl (hlo.out _ (below_new _ _)) (flat_one cellsN oneN _) (by unfold maxLen; omega) (by omega) (by simp) ?_; intro g1 cap1 w5 hown1 hgrow1; simp only [Nat.zero_add, List.nil_append] at hown1 ⊢; have hB5 : Below wx.heap.size wx w5 := below_grown (below_new _ _) hgrow1 (Nat.le_refl _) (Nat.le_refl _); obtain ⟨⟨y1, y2, y3⟩, y4, y5, y6⟩ := hkeep.out _ hB5)
            | (at_builtin; refine wpList_append_any rfl _ _ 25 rfl wx.heap.size 44 i0 _ 3 48 Tryd.underlying25 hi0 hz0 hz1 hz2 rfl (by decide) g1 cap1 at_ (rowN (M.take at_)) rfl (hown1.alloc _) _ 1 (cellsN X) rfl (news_block (heap_alloc_new _ _) rfl) (oneN X) (by unfold maxLen; omega) (by omega) (by have := hB5.size; simp; omega) ?_; intro g2 cap2 w6 hown2 hgrow2; have hB6 : Below wx.heap.size wx w6 := below_grown (hB5.alloc hB5.size _) hgrow2 (hown1.lt g1 rfl).1 (Nat.le_refl _); obtain ⟨⟨y1, y2, y3⟩, y4, y5, y6⟩ := hkeep.out _ hB6)
            | (at_builtin; refine wpList_append_any rfl _ _ 25 rfl wx.heap.size 44 i0 _ 3 48 Tryd.underlying25 hi0 hz0 hz1 hz2 rfl (by decide) g2 cap2 (at_ + 1) (rowN (M.take at_) ++ cellsN X) rfl hown2 _ (j - at_) (rowN (M.drop at_)) rfl (hhi.out _ _ _ hB6 (by first | exact ⟨rfl, rfl⟩ | exact .inr rfl | exact .inl ⟨rfl, by omega⟩ | (refine ⟨?_, by omega⟩; split <;> rfl) | (by_cases h : cc = at_; exact .inl ⟨if_pos h, by omega⟩; exact .inr (if_neg h)))) (flat_one cellsN oneN _) (by unfold maxLen; omega) (by omega) hB6.size ?_; rw [hrows.out, show at_ + 1 + (j - at_) = j + 1 by omega]; intro g3 cap3 w7 hown3 hgrow3; have hB7 : Below wx.heap.size wx w7 := below_grown hB6 hgrow3 (hown2.lt g2 rfl).1 (Nat.le_refl _); obtain ⟨⟨y1, y2, y3⟩, y4, y5, y6⟩ := hkeep.out _ hB7))
          all_goals
            go_roundw
            case rel => exact ⟨j + 1, _, _, _, by omega, by first | rfl | go_num | (congr 1; omega), hend.out w7 g3 cap3 hB7 hown3⟩
            case measure => simp [intOf]; omega

      · go_upto_region 8 with fail
        generalize hz : (0 : Int) = z
        obtain ⟨at_, rfl, hat⟩ : ∃ at_ : Nat, z = (at_ : Int) ∧ at_ ≤ j := ⟨0, by rw [← hz]; rfl, by omega⟩
        clear hz
        obtain ⟨wx, rfl⟩ : ∃ x, x = wr := ⟨_, rfl⟩
        have hbx : Below wx.heap.size wx wx := Below.refl _ _
        have hts2 := hts.below hbx
        have hownx := ownB hown hbx
        have hsx := hts2.sz
        have hlo : ∀ w', Below wx.heap.size wx w' → NewsAt w' 3 (.slice p at_ cc) at_ (rowN (M.take at_)) := fun w' hb => news_lo (cs := cellsN) (fun _ => rfl) (by decide) hMl (ownB hownx hb) at_ hat
        rcases hG.h3.below hts2.bel with h0 | ⟨g0, off, ea, kk⟩
        · have := hG.l3; rw [h0] at this; simp at this; omega
        have kx := kk j (by rw [hG.l3]; exact hj)
        have htk := List.take_succ_eq_append_getElem (l := r.nd) (i := j) (by rw [hG.l3]; exact hj)
        rw [← getD_get (show j < r.nd.length by rw [hG.l3]; exact hj)] at htk
        generalize r.nd.getD j default = X at kx htk
        obtain ⟨k0, k1, k2, _, _, _, _, _⟩ := kx
        have q2x := hts2.r.c2
        have o2x := hts2.o.c2
        rw [ea] at q2x
        have hkeep : ∀ w', Below wx.heap.size wx w' → (w'.cell? ⟨w.heap.size, 2, none⟩ = some (.slice (some ⟨g0, off, none⟩) n3 c3) ∧ w'.cell? ⟨w.heap.size + 2, 2, none⟩ = some (.slice p j cc) ∧ w'.frozen? ⟨w.heap.size + 2, 2, none⟩ = false) ∧ w'.cell? ⟨g0, off + j * 3, none⟩ = some (.int .i64 X.id) ∧ w'.cell? ⟨g0, off + j * 3 + 1, none⟩ = some (.string X.lab) ∧ w'.cell? ⟨g0, off + j * 3 + 2, none⟩ = some (.slice X.p X.l X.c) := fun w' hb => ⟨⟨(hb.cell (World.block_lt_of_cell? _ _ q2x)).trans q2x, (hts2.below hb).o.c2, (hts2.below hb).o.fr 2⟩, (hb.cell (World.block_lt_of_cell? _ _ k0)).trans k0, (hb.cell (World.block_lt_of_cell? _ _ k1)).trans k1, (hb.cell (World.block_lt_of_cell? _ _ k2)).trans k2⟩
        have hend : ∀ w' g' c', Below wx.heap.size wx w' → w'.ownsRow wx.heap.size 44 3 (.slice (some ⟨g', 0, none⟩) (j + 1) c') (j + 1) (rowN (putIn M at_ X)) → TS w (w'.setCell ⟨w.heap.size + 2, 2, none⟩ (.slice (some ⟨g', 0, none⟩) (j + 1) c')) (.slice a1 n1 c1) (.slice a2 n2 c2) (.slice a3 n3 c3) (.slice a4 n4 c4) (.slice (some ⟨g', 0, none⟩) (j + 1) c') (.slice none 0 0) ∧ (w'.setCell ⟨w.heap.size + 2, 2, none⟩ (.slice (some ⟨g', 0, none⟩) (j + 1) c')).ownsRow (w.heap.size + 3) 44 3 (.slice (some ⟨g', 0, none⟩) (j + 1) c') (j + 1) (rowN (putIn M at_ X)) ∧ (putIn M at_ X).length = j + 1 ∧ (putIn M at_ X).Perm (r.nd.take (j + 1)) := fun w' g' c' hb ho =>
          ⟨(hts2.below hb).put2 _, ownL (ownS ho _ (by show w.heap.size + 2 < wx.heap.size; omega)) hsx, by rw [putIn_len M at_ X (by omega), hMl], (putIn_perm M at_ X).trans (by rw [htk]; exact hMp.append_right [X])⟩
        have hrows : rowN (M.take at_) ++ cellsN X ++ rowN (M.drop at_) = rowN (putIn M at_ X) := by simp [rowN, putIn]
        obtain ⟨⟨y1, y2, y3⟩, y4, y5, y6⟩ := hkeep _ (below_new wx (.cells #[] 44))
        replace ea : Hid _ := ea
        replace hrows : Hid _ := hrows
        replace hend : Hid _ := hend
        replace hkeep : Hid _ := hkeep
        replace hlo : Hid _ := hlo
        replace htk : Hid _ := htk
        have hatI : (at_ : Int) ≤ (j : Int) := by omega
        have hjI : (j : Int) < (n3 : Int) := by omega
        clear k0 k1 k2 q2x o2x q2 o2 kk
        rcases own_row (cs := cellsN) (fun _ => rfl) hMl hownx with ⟨e1, e2, e3⟩ | ⟨gM, capM, e1, hgm1, hgm2, hgm3, hgm4, hOR⟩
        · simp only [Value.slice.injEq] at e1
          obtain ⟨rfl, -, rfl⟩ := e1
          have hhi : ∀ w' p' d, Below wx.heap.size wx w' → (p' = none ∧ d = 0) → NewsAt w' 3 (.slice p' (j - at_) d) (j - at_) (rowN (M.drop at_)) := fun w' p' d hb hp => by
            obtain ⟨rfl, rfl⟩ := hp
            exact .inl ⟨by rw [show j - at_ = 0 by omega], by omega, by rw [e3]; simp [rowN]⟩
          have hat0 : (at_ : Int) ≤ 0 := by omega
          have hat1 : at_ = 0 := by omega
          replace hhi : Hid _ := hhi
          replace e3 : Hid _ := e3
          replace e2 : Hid _ := e2
          replace hat1 : Hid _ := hat1
          clear hownx
          go_wp2_with (first
            | (at_builtin; refine wpList_append_any rfl _ _ 25 rfl wx.heap.size 44 i0 _ 3 48 Tryd.underlying25 hi0 hz0 hz1 hz2 rfl (by decide) _ 0 0 [] rfl (own_empty 3 (Nat.le_refl _) (heap_alloc_new _ _)) _ at_ (rowN (M.take at_)) rfl (hlo.out _ (below_new _ _)) (flat_one cellsN oneN _) (by unfold maxLen; omega) (by omega) (by simp) ?_; intro g1 cap1 w5 hown1 hgrow1; simp only [Nat.zero_add, List.nil_append] at hown1 ⊢; have hB5 : Below wx.heap.size wx w5 := below_grown (below_new _ _) hgrow1 (Nat.le_refl _) (Nat.le_refl _); obtain ⟨⟨y1, y2, y3⟩, y4, y5, y6⟩ := hkeep.out _ hB5)
            | (at_builtin; refine wpList_append_any rfl _ _ 25 rfl wx.heap.size 44 i0 _ 3 48 Tryd.underlying25 hi0 hz0 hz1 hz2 rfl (by decide) g1 cap1 at_ (rowN (M.take at_)) rfl (hown1.alloc _) _ 1 (cellsN X) rfl (news_block (heap_alloc_new _ _) rfl) (oneN X) (by unfold maxLen; omega) (by omega) (by have := hB5.size; simp; omega) ?_; intro g2 cap2 w6 hown2 hgrow2; have hB6 : Below wx.heap.size wx w6 := below_grown (hB5.alloc hB5.size _) hgrow2 (hown1.lt g1 rfl).1 (Nat.le_refl _); obtain ⟨⟨y1, y2, y3⟩, y4, y5, y6⟩ := hkeep.out _ hB6)
            | (at_builtin; refine wpList_append_any rfl _ _ 25 rfl wx.heap.size 44 i0 _ 3 48 Tryd.underlying25 hi0 hz0 hz1 hz2 rfl (by decide) g2 cap2 (at_ + 1) (rowN (M.take at_) ++ cellsN X) rfl hown2 _ (j - at_) (rowN (M.drop at_)) rfl (hhi.out _ _ _ hB6 (by first | exact ⟨rfl, rfl⟩ | exact .inr rfl | exact .inl ⟨rfl, by omega⟩ | (refine ⟨?_, by omega⟩; split <;> rfl) | (by_cases h : cc = at_; exact .inl ⟨if_pos h, by omega⟩; exact .inr (if_neg h)))) (flat_one cellsN oneN _) (by unfold maxLen; omega) (by omega) hB6.size ?_; rw [hrows.out, show at_ + 1 + (j - at_) = j + 1 by omega]; intro g3 cap3 w7 hown3 hgrow3; have hB7 : Below wx.heap.size wx w7 := below_grown hB6 hgrow3 (hown2.lt g2 rfl).1 (Nat.le_refl _); obtain ⟨⟨y1, y2, y3⟩, y4, y5, y6⟩ := hkeep.out _ hB7))
          all_goals
            go_roundw
            case rel => exact ⟨j + 1, _, _, _, by omega, by first | rfl | go_num | (congr 1; omega), hend.out w7 g3 cap3 hB7 hown3⟩
            case measure => simp [intOf]; omega
        · cases e1
          have hhi : ∀ w' p' d, Below wx.heap.size wx w' → ((p' = some ⟨gM, 0, none⟩ ∧ j ≤ at_) ∨ p' = some ⟨gM, at_ * 3, none⟩) → NewsAt w' 3 (.slice p' (j - at_) d) (j - at_) (rowN (M.drop at_)) := fun w' p' d hb hp => news_hi (cs := cellsN) (fun _ => rfl) (by decide) hMl (ownB hownx hb) at_ d hat (by rcases hp with ⟨rfl, h⟩ | rfl; exact .inr (.inl ⟨h, rfl⟩); exact .inr (.inr ⟨gM, rfl, rfl⟩))
          unfold maxLen at hgm4
          have hcI : (j : Int) ≤ (cc : Int) := by omega
          have hacI : (at_ : Int) ≤ (cc : Int) := by omega
          replace hhi : Hid _ := hhi
          clear hOR hownx
          go_wp2_with (first
            | (at_builtin; refine wpList_append_any rfl _ _ 25 rfl wx.heap.size 44 i0 _ 3 48 Tryd.underlying25 hi0 hz0 hz1 hz2 rfl (by decide) _ 0 0 [] rfl (own_empty 3 (Nat.le_refl _) (heap_alloc_new _ _)) _ at_ (rowN (M.take at_)) rfl (hlo.out _ (below_new _ _)) (flat_one cellsN oneN _) (by unfold maxLen; omega) (by omega) (by simp) ?_; intro g1 cap1 w5 hown1 hgrow1; simp only [Nat.zero_add, List.nil_append] at hown1 ⊢; have hB5 : Below wx.heap.size wx w5 := below_grown (below_new _ _) hgrow1 (Nat.le_refl _) (Nat.le_refl _); obtain ⟨⟨y1, y2, y3⟩, y4, y5, y6⟩ := hkeep.out _ hB5)
            | (at_builtin; refine wpList_append_any rfl _ _ 25 rfl wx.heap.size 44 i0 _ 3 48 Tryd.underlying25 hi0 hz0 hz1 hz2 rfl (by decide) g1 cap1 at_ (rowN (M.take at_)) rfl (hown1.alloc _) _ 1 (cellsN X) rfl (news_block (heap_alloc_new _ _) rfl) (oneN X) (by unfold maxLen; omega) (by omega) (by have := hB5.size; simp; omega) ?_; intro g2 cap2 w6 hown2 hgrow2; have hB6 : Below wx.heap.size wx w6 := below_grown (hB5.alloc hB5.size _) hgrow2 (hown1.lt g1 rfl).1 (Nat.le_refl _); obtain ⟨⟨y1, y2, y3⟩, y4, y5, y6⟩ := hkeep.out _ hB6)
            | (at_builtin; refine wpList_append_any rfl _ _ 25 rfl wx.heap.size 44 i0 _ 3 48 Tryd.underlying25 hi0 hz0 hz1 hz2 rfl (by decide) g2 cap2 (at_ + 1) (rowN (M.take at_) ++ cellsN X) rfl hown2 _ (j - at_) (rowN (M.drop at_)) rfl (hhi.out _ _ _ hB6 (by first | exact ⟨rfl, rfl⟩ | exact .inr rfl | exact .inl ⟨rfl, by omega⟩ | (refine ⟨?_, by omega⟩; split <;> rfl) | (by_cases h : cc = at_; exact .inl ⟨if_pos h, by omega⟩; exact .inr (if_neg h)))) (flat_one cellsN oneN _) (by unfold maxLen; omega) (by omega) hB6.size ?_; rw [hrows.out, show at_ + 1 + (j - at_) = j + 1 by omega]; intro g3 cap3 w7 hown3 hgrow3; have hB7 : Below wx.heap.size wx w7 := below_grown hB6 hgrow3 (hown2.lt g2 rfl).1 (Nat.le_refl _); obtain ⟨⟨y1, y2, y3⟩, y4, y5, y6⟩ := hkeep.out _ hB7))
          all_goals
            go_roundw
            case rel => exact ⟨j + 1, _, _, _, by omega, by first | rfl | go_num | (congr 1; omega), hend.out w7 g3 cap3 hB7 hown3⟩
            case measure => simp [intOf]; omega

    · obtain rfl : n3 = j := by omega
      have hMp' : M.Perm r.nd := by rw [List.take_of_length_le (by rw [hG.l3]; omega)] at hMp; exact hMp
      have her : ER w wr (.slice a1 n1 c1) (.slice a2 n2 c2) (.slice a3 n3 c3) (.slice a4 n4 c4) p n3 cc M r.ed dn 0 none 0 0 [] := ⟨hts, hown, World.ownsRow_nil _ _ _ _, rfl, Nat.le_refl _, [], by simp, List.Perm.refl _, by simp⟩
      have q2 := hts.r.c2
      replace her : Hid _ := her
      replace hMp' : Hid _ := hMp'
      clear hts hown hMp
      go_wp2_with fail
      clear q2
      revert her
      generalize p = pN
      generalize cc = dN
      revert hMl hMp'
      generalize M = MN
      intro hMNl hMp' her
      go_loopw [11] (fun v11 wr => ∃ (j : Nat) (p : Option Addr) (m c : Nat) (ME : List ED), j ≤ n4 ∧ v11 = .int .i64 j ∧ ER w wr (.slice a1 n1 c1) (.slice a2 n2 c2) (.slice a3 n3 c3) (.slice a4 n4 c4) pN n3 dN MN r.ed dn j p m c ME) (fun v11 _ => n4 - (intOf v11).toNat)
      case atStart => exact ⟨0, none, 0, 0, [], by omega, rfl, her.out⟩
      case round =>
        clear her
        obtain ⟨j, p, m, cc, M, j1, rfl, her⟩ := hrel
        have q3 := her.ts.r.c3
        have o2 := her.ts.o.c3
        have q2 := her.ts.r.c2
        by_cases hj : j < n4
        · by_cases hjp : j < pn
          · obtain ⟨g9, f9, ep, cp⟩ := (hP.below her.ts.bel).at j hjp
            have hPj := hP.1 j
            generalize P j = u at cp hPj
            rw [ep]
            by_cases hid : j < dn
            · obtain ⟨g8, f8, ed, cd⟩ := (hD.below her.ts.bel).at j hid
              have hDi := hD.1 j
              generalize D j = v at cd hDi
              rw [ed]
              replace her : Hid _ := her
              go_upto_region 17 with fail
              case roundEnd => exact ⟨⟨j + 1, p, m, cc, M, by omega, by first | rfl | go_num | (congr 1; omega), her.out.skip (by omega)⟩, by simp [intOf]; omega⟩
              replace ed : Hid _ := ed
              clear cd hDi
              obtain ⟨hts, hNo, hown, hMl, hmj, hSS⟩ := her.out
              clear her
              go_quiet (fail)
              have hbx := belowN (Below.refl wr.heap.size wr) nq
              generalize wr.drewN nq = wx at hbx ⊢
              rw [show (u : Int) / 2 % ((m : Int) + 1) = ((u / 2 % (m + 1) : Nat) : Int) from rfl]
              have hat : u / 2 % (m + 1) ≤ m := Nat.lt_succ_iff.1 (Nat.mod_lt _ (by omega))
              generalize u / 2 % (m + 1) = at_ at hat ⊢
              clear cp hPj
              go_upto_region 18 with fail
              replace ep : Hid _ := ep
              have hts2 := hts.below hbx
              have hownx := ownB hown hbx
              have hsx := hts2.sz
              have hlo : ∀ w', Below wx.heap.size wx w' → NewsAt w' 5 (.slice p at_ cc) at_ (rowE (M.take at_)) := fun w' hb => news_lo (cs := cellsE) (fun _ => rfl) (by decide) hMl (ownB hownx hb) at_ hat
              rcases hG.h4.below hts2.bel with h0 | ⟨g0, off, ea, kk⟩
              · have := hG.l4; rw [h0] at this; simp at this; omega
              have kx := kk j (by rw [hG.l4]; exact hj)
              have htk := List.take_succ_eq_append_getElem (l := r.ed) (i := j) (by rw [hG.l4]; exact hj)
              rw [← getD_get (show j < r.ed.length by rw [hG.l4]; exact hj)] at htk
              generalize r.ed.getD j default = X at kx htk
              obtain ⟨k0, k1, k2, k3, k4, _, _, _, _, _, _, _⟩ := kx
              have q2x := hts2.r.c3
              have o2x := hts2.o.c3
              rw [ea] at q2x
              have hkeep : ∀ w', Below wx.heap.size wx w' → (w'.cell? ⟨w.heap.size, 3, none⟩ = some (.slice (some ⟨g0, off, none⟩) n4 c4) ∧ w'.cell? ⟨w.heap.size + 2, 3, none⟩ = some (.slice p m cc) ∧ w'.frozen? ⟨w.heap.size + 2, 3, none⟩ = false) ∧ w'.cell? ⟨g0, off + j * 5, none⟩ = some (.int .i64 X.id) ∧ w'.cell? ⟨g0, off + j * 5 + 1, none⟩ = some (.string X.lab) ∧ w'.cell? ⟨g0, off + j * 5 + 2, none⟩ = some (.int .i64 X.fr) ∧ w'.cell? ⟨g0, off + j * 5 + 3, none⟩ = some (.int .i64 X.tt) ∧ w'.cell? ⟨g0, off + j * 5 + 4, none⟩ = some (.slice X.p X.l X.c) := fun w' hb => ⟨⟨(hb.cell (World.block_lt_of_cell? _ _ q2x)).trans q2x, (hts2.below hb).o.c3, (hts2.below hb).o.fr 3⟩, (hb.cell (World.block_lt_of_cell? _ _ k0)).trans k0, (hb.cell (World.block_lt_of_cell? _ _ k1)).trans k1, (hb.cell (World.block_lt_of_cell? _ _ k2)).trans k2, (hb.cell (World.block_lt_of_cell? _ _ k3)).trans k3, (hb.cell (World.block_lt_of_cell? _ _ k4)).trans k4⟩
              have hend : ∀ w' g' c', Below wx.heap.size wx w' → w'.ownsRow wx.heap.size 46 5 (.slice (some ⟨g', 0, none⟩) (m + 1) c') (m + 1) (rowE (putIn M at_ X)) → ER w (w'.setCell ⟨w.heap.size + 2, 3, none⟩ (.slice (some ⟨g', 0, none⟩) (m + 1) c')) (.slice a1 n1 c1) (.slice a2 n2 c2) (.slice a3 n3 c3) (.slice a4 n4 c4) pN n3 dN MN r.ed dn (j + 1) (some ⟨g', 0, none⟩) (m + 1) c' (putIn M at_ X) := fun w' g' c' hb ho =>
                ⟨(hts2.below hb).put3 _, ownS' (ownB (ownB hNo hbx) hb) _ (by show w.heap.size + 2 < w.heap.size + 3; omega), ownL (ownS ho _ (by show w.heap.size + 2 < wx.heap.size; omega)) hsx, by rw [putIn_len M at_ X (by omega), hMl], by omega, er_next hSS htk (putIn_perm M at_ X)⟩
              have hrows : rowE (M.take at_) ++ cellsE X ++ rowE (M.drop at_) = rowE (putIn M at_ X) := by simp [rowE, putIn]
              obtain ⟨⟨y1, y2, y3⟩, y4, y5, y6, y7, y8⟩ := hkeep _ (below_new wx (.cells #[] 46))
              replace ea : Hid _ := ea
              replace hrows : Hid _ := hrows
              replace hend : Hid _ := hend
              replace hkeep : Hid _ := hkeep
              replace hlo : Hid _ := hlo
              replace htk : Hid _ := htk
              have hatI : (at_ : Int) ≤ (m : Int) := by omega
              have hjI : (j : Int) < (n4 : Int) := by omega
              clear k0 k1 k2 k3 k4 q2x o2x q2 o2 kk
              rcases own_row (cs := cellsE) (fun _ => rfl) hMl hownx with ⟨e1, e2, e3⟩ | ⟨gM, capM, e1, hgm1, hgm2, hgm3, hgm4, hOR⟩
              · simp only [Value.slice.injEq] at e1
                obtain ⟨rfl, -, rfl⟩ := e1
                have hhi : ∀ w' p' d, Below wx.heap.size wx w' → (p' = none ∧ d = 0) → NewsAt w' 5 (.slice p' (m - at_) d) (m - at_) (rowE (M.drop at_)) := fun w' p' d hb hp => by
                  obtain ⟨rfl, rfl⟩ := hp
                  exact .inl ⟨by rw [show m - at_ = 0 by omega], by omega, by rw [e3]; simp [rowE]⟩
                have hat0 : (at_ : Int) ≤ 0 := by omega
                have hat1 : at_ = 0 := by omega
                replace hhi : Hid _ := hhi
                replace e3 : Hid _ := e3
                replace e2 : Hid _ := e2
                replace hat1 : Hid _ := hat1
                clear hownx
                go_wp2_with (first
                  | (at_builtin; refine wpList_append_any rfl _ _ 26 rfl wx.heap.size 46 i5 _ 5 64 Tryd.underlying26 hi5 hy0 hy1 hy2 rfl (by decide) _ 0 0 [] rfl (own_empty 5 (Nat.le_refl _) (heap_alloc_new _ _)) _ at_ (rowE (M.take at_)) rfl (hlo.out _ (below_new _ _)) (flat_one cellsE oneE _) (by unfold maxLen; omega) (by omega) (by simp) ?_; intro g1 cap1 w5 hown1 hgrow1; simp only [Nat.zero_add, List.nil_append] at hown1 ⊢; have hB5 : Below wx.heap.size wx w5 := below_grown (below_new _ _) hgrow1 (Nat.le_refl _) (Nat.le_refl _); obtain ⟨⟨y1, y2, y3⟩, y4, y5, y6, y7, y8⟩ := hkeep.out _ hB5)
                  | (at_builtin; refine wpList_append_any rfl _ _ 26 rfl wx.heap.size 46 i5 _ 5 64 Tryd.underlying26 hi5 hy0 hy1 hy2 rfl (by decide) g1 cap1 at_ (rowE (M.take at_)) rfl (hown1.alloc _) _ 1 (cellsE X) rfl (news_block (heap_alloc_new _ _) rfl) (oneE X) (by unfold maxLen; omega) (by omega) (by have := hB5.size; simp; omega) ?_; intro g2 cap2 w6 hown2 hgrow2; have hB6 : Below wx.heap.size wx w6 := below_grown (hB5.alloc hB5.size _) hgrow2 (hown1.lt g1 rfl).1 (Nat.le_refl _); obtain ⟨⟨y1, y2, y3⟩, y4, y5, y6, y7, y8⟩ := hkeep.out _ hB6)
                  | (at_builtin; refine wpList_append_any rfl _ _ 26 rfl wx.heap.size 46 i5 _ 5 64 Tryd.underlying26 hi5 hy0 hy1 hy2 rfl (by decide) g2 cap2 (at_ + 1) (rowE (M.take at_) ++ cellsE X) rfl hown2 _ (m - at_) (rowE (M.drop at_)) rfl (hhi.out _ _ _ hB6 (by first | exact ⟨rfl, rfl⟩ | exact .inr rfl | exact .inl ⟨rfl, by omega⟩ | (refine ⟨?_, by omega⟩; split <;> rfl) | (by_cases h : cc = at_; exact .inl ⟨if_pos h, by omega⟩; exact .inr (if_neg h)))) (flat_one cellsE oneE _) (by unfold maxLen; omega) (by omega) hB6.size ?_; rw [hrows.out, show at_ + 1 + (m - at_) = m + 1 by omega]; intro g3 cap3 w7 hown3 hgrow3; have hB7 : Below wx.heap.size wx w7 := below_grown hB6 hgrow3 (hown2.lt g2 rfl).1 (Nat.le_refl _); obtain ⟨⟨y1, y2, y3⟩, y4, y5, y6, y7, y8⟩ := hkeep.out _ hB7))
                all_goals
                  go_roundw
                  case rel => exact ⟨j + 1, _, _, _, _, by omega, by first | rfl | go_num | (congr 1; omega), hend.out w7 g3 cap3 hB7 hown3⟩
                  case measure => simp [intOf]; omega
              · cases e1
                have hhi : ∀ w' p' d, Below wx.heap.size wx w' → ((p' = some ⟨gM, 0, none⟩ ∧ m ≤ at_) ∨ p' = some ⟨gM, at_ * 5, none⟩) → NewsAt w' 5 (.slice p' (m - at_) d) (m - at_) (rowE (M.drop at_)) := fun w' p' d hb hp => news_hi (cs := cellsE) (fun _ => rfl) (by decide) hMl (ownB hownx hb) at_ d hat (by rcases hp with ⟨rfl, h⟩ | rfl; exact .inr (.inl ⟨h, rfl⟩); exact .inr (.inr ⟨gM, rfl, rfl⟩))
                unfold maxLen at hgm4
                have hcI : (m : Int) ≤ (cc : Int) := by omega
                have hacI : (at_ : Int) ≤ (cc : Int) := by omega
                replace hhi : Hid _ := hhi
                clear hOR hownx
                go_wp2_with (first
                  | (at_builtin; refine wpList_append_any rfl _ _ 26 rfl wx.heap.size 46 i5 _ 5 64 Tryd.underlying26 hi5 hy0 hy1 hy2 rfl (by decide) _ 0 0 [] rfl (own_empty 5 (Nat.le_refl _) (heap_alloc_new _ _)) _ at_ (rowE (M.take at_)) rfl (hlo.out _ (below_new _ _)) (flat_one cellsE oneE _) (by unfold maxLen; omega) (by omega) (by simp) ?_; intro g1 cap1 w5 hown1 hgrow1; simp only [Nat.zero_add, List.nil_append] at hown1 ⊢; have hB5 : Below wx.heap.size wx w5 := below_grown (below_new _ _) hgrow1 (Nat.le_refl _) (Nat.le_refl _); obtain ⟨⟨y1, y2, y3⟩, y4, y5, y6, y7, y8⟩ := hkeep.out _ hB5)
                  | (at_builtin; refine wpList_append_any rfl _ _ 26 rfl wx.heap.size 46 i5 _ 5 64 Tryd.underlying26 hi5 hy0 hy1 hy2 rfl (by decide) g1 cap1 at_ (rowE (M.take at_)) rfl (hown1.alloc _) _ 1 (cellsE X) rfl (news_block (heap_alloc_new _ _) rfl) (oneE X) (by unfold maxLen; omega) (by omega) (by have := hB5.size; simp; omega) ?_; intro g2 cap2 w6 hown2 hgrow2; have hB6 : Below wx.heap.size wx w6 := below_grown (hB5.alloc hB5.size _) hgrow2 (hown1.lt g1 rfl).1 (Nat.le_refl _); obtain ⟨⟨y1, y2, y3⟩, y4, y5, y6, y7, y8⟩ := hkeep.out _ hB6)
                  | (at_builtin; refine wpList_append_any rfl _ _ 26 rfl wx.heap.size 46 i5 _ 5 64 Tryd.underlying26 hi5 hy0 hy1 hy2 rfl (by decide) g2 cap2 (at_ + 1) (rowE (M.take at_) ++ cellsE X) rfl hown2 _ (m - at_) (rowE (M.drop at_)) rfl (hhi.out _ _ _ hB6 (by first | exact ⟨rfl, rfl⟩ | exact .inr rfl | exact .inl ⟨rfl, by omega⟩ | (refine ⟨?_, by omega⟩; split <;> rfl) | (by_cases h : cc = at_; exact .inl ⟨if_pos h, by omega⟩; exact .inr (if_neg h)))) (flat_one cellsE oneE _) (by unfold maxLen; omega) (by omega) hB6.size ?_; rw [hrows.out, show at_ + 1 + (m - at_) = m + 1 by omega]; intro g3 cap3 w7 hown3 hgrow3; have hB7 : Below wx.heap.size wx w7 := below_grown hB6 hgrow3 (hown2.lt g2 rfl).1 (Nat.le_refl _); obtain ⟨⟨y1, y2, y3⟩, y4, y5, y6, y7, y8⟩ := hkeep.out _ hB7))
                all_goals
                  go_roundw
                  case rel => exact ⟨j + 1, _, _, _, _, by omega, by first | rfl | go_num | (congr 1; omega), hend.out w7 g3 cap3 hB7 hown3⟩
                  case measure => simp [intOf]; omega


            · replace her : Hid _ := her
              go_upto_region 17 with fail
              obtain ⟨hts, hNo, hown, hMl, hmj, hSS⟩ := her.out
              clear her
              go_quiet (fail)
              have hbx := belowN (Below.refl wr.heap.size wr) nq
              generalize wr.drewN nq = wx at hbx ⊢
              rw [show (u : Int) / 2 % ((m : Int) + 1) = ((u / 2 % (m + 1) : Nat) : Int) from rfl]
              have hat : u / 2 % (m + 1) ≤ m := Nat.lt_succ_iff.1 (Nat.mod_lt _ (by omega))
              generalize u / 2 % (m + 1) = at_ at hat ⊢
              clear cp hPj
              go_upto_region 18 with fail
              replace ep : Hid _ := ep
              have hts2 := hts.below hbx
              have hownx := ownB hown hbx
              have hsx := hts2.sz
              have hlo : ∀ w', Below wx.heap.size wx w' → NewsAt w' 5 (.slice p at_ cc) at_ (rowE (M.take at_)) := fun w' hb => news_lo (cs := cellsE) (fun _ => rfl) (by decide) hMl (ownB hownx hb) at_ hat
              rcases hG.h4.below hts2.bel with h0 | ⟨g0, off, ea, kk⟩
              · have := hG.l4; rw [h0] at this; simp at this; omega
              have kx := kk j (by rw [hG.l4]; exact hj)
              have htk := List.take_succ_eq_append_getElem (l := r.ed) (i := j) (by rw [hG.l4]; exact hj)
              rw [← getD_get (show j < r.ed.length by rw [hG.l4]; exact hj)] at htk
              generalize r.ed.getD j default = X at kx htk
              obtain ⟨k0, k1, k2, k3, k4, _, _, _, _, _, _, _⟩ := kx
              have q2x := hts2.r.c3
              have o2x := hts2.o.c3
              rw [ea] at q2x
              have hkeep : ∀ w', Below wx.heap.size wx w' → (w'.cell? ⟨w.heap.size, 3, none⟩ = some (.slice (some ⟨g0, off, none⟩) n4 c4) ∧ w'.cell? ⟨w.heap.size + 2, 3, none⟩ = some (.slice p m cc) ∧ w'.frozen? ⟨w.heap.size + 2, 3, none⟩ = false) ∧ w'.cell? ⟨g0, off + j * 5, none⟩ = some (.int .i64 X.id) ∧ w'.cell? ⟨g0, off + j * 5 + 1, none⟩ = some (.string X.lab) ∧ w'.cell? ⟨g0, off + j * 5 + 2, none⟩ = some (.int .i64 X.fr) ∧ w'.cell? ⟨g0, off + j * 5 + 3, none⟩ = some (.int .i64 X.tt) ∧ w'.cell? ⟨g0, off + j * 5 + 4, none⟩ = some (.slice X.p X.l X.c) := fun w' hb => ⟨⟨(hb.cell (World.block_lt_of_cell? _ _ q2x)).trans q2x, (hts2.below hb).o.c3, (hts2.below hb).o.fr 3⟩, (hb.cell (World.block_lt_of_cell? _ _ k0)).trans k0, (hb.cell (World.block_lt_of_cell? _ _ k1)).trans k1, (hb.cell (World.block_lt_of_cell? _ _ k2)).trans k2, (hb.cell (World.block_lt_of_cell? _ _ k3)).trans k3, (hb.cell (World.block_lt_of_cell? _ _ k4)).trans k4⟩
              have hend : ∀ w' g' c', Below wx.heap.size wx w' → w'.ownsRow wx.heap.size 46 5 (.slice (some ⟨g', 0, none⟩) (m + 1) c') (m + 1) (rowE (putIn M at_ X)) → ER w (w'.setCell ⟨w.heap.size + 2, 3, none⟩ (.slice (some ⟨g', 0, none⟩) (m + 1) c')) (.slice a1 n1 c1) (.slice a2 n2 c2) (.slice a3 n3 c3) (.slice a4 n4 c4) pN n3 dN MN r.ed dn (j + 1) (some ⟨g', 0, none⟩) (m + 1) c' (putIn M at_ X) := fun w' g' c' hb ho =>
                ⟨(hts2.below hb).put3 _, ownS' (ownB (ownB hNo hbx) hb) _ (by show w.heap.size + 2 < w.heap.size + 3; omega), ownL (ownS ho _ (by show w.heap.size + 2 < wx.heap.size; omega)) hsx, by rw [putIn_len M at_ X (by omega), hMl], by omega, er_next hSS htk (putIn_perm M at_ X)⟩
              have hrows : rowE (M.take at_) ++ cellsE X ++ rowE (M.drop at_) = rowE (putIn M at_ X) := by simp [rowE, putIn]
              obtain ⟨⟨y1, y2, y3⟩, y4, y5, y6, y7, y8⟩ := hkeep _ (below_new wx (.cells #[] 46))
              replace ea : Hid _ := ea
              replace hrows : Hid _ := hrows
              replace hend : Hid _ := hend
              replace hkeep : Hid _ := hkeep
              replace hlo : Hid _ := hlo
              replace htk : Hid _ := htk
              have hatI : (at_ : Int) ≤ (m : Int) := by omega
              have hjI : (j : Int) < (n4 : Int) := by omega
              clear k0 k1 k2 k3 k4 q2x o2x q2 o2 kk
              rcases own_row (cs := cellsE) (fun _ => rfl) hMl hownx with ⟨e1, e2, e3⟩ | ⟨gM, capM, e1, hgm1, hgm2, hgm3, hgm4, hOR⟩
              · simp only [Value.slice.injEq] at e1
                obtain ⟨rfl, -, rfl⟩ := e1
                have hhi : ∀ w' p' d, Below wx.heap.size wx w' → (p' = none ∧ d = 0) → NewsAt w' 5 (.slice p' (m - at_) d) (m - at_) (rowE (M.drop at_)) := fun w' p' d hb hp => by
                  obtain ⟨rfl, rfl⟩ := hp
                  exact .inl ⟨by rw [show m - at_ = 0 by omega], by omega, by rw [e3]; simp [rowE]⟩
                have hat0 : (at_ : Int) ≤ 0 := by omega
                have hat1 : at_ = 0 := by omega
                replace hhi : Hid _ := hhi
                replace e3 : Hid _ := e3
                replace e2 : Hid _ := e2
                replace hat1 : Hid _ := hat1
                clear hownx
                go_wp2_with (first
                  | (at_builtin; refine wpList_append_any rfl _ _ 26 rfl wx.heap.size 46 i5 _ 5 64 Tryd.underlying26 hi5 hy0 hy1 hy2 rfl (by decide) _ 0 0 [] rfl (own_empty 5 (Nat.le_refl _) (heap_alloc_new _ _)) _ at_ (rowE (M.take at_)) rfl (hlo.out _ (below_new _ _)) (flat_one cellsE oneE _) (by unfold maxLen; omega) (by omega) (by simp) ?_; intro g1 cap1 w5 hown1 hgrow1; simp only [Nat.zero_add, List.nil_append] at hown1 ⊢; have hB5 : Below wx.heap.size wx w5 := below_grown (below_new _ _) hgrow1 (Nat.le_refl _) (Nat.le_refl _); obtain ⟨⟨y1, y2, y3⟩, y4, y5, y6, y7, y8⟩ := hkeep.out _ hB5)
                  | (at_builtin; refine wpList_append_any rfl _ _ 26 rfl wx.heap.size 46 i5 _ 5 64 Tryd.underlying26 hi5 hy0 hy1 hy2 rfl (by decide) g1 cap1 at_ (rowE (M.take at_)) rfl (hown1.alloc _) _ 1 (cellsE X) rfl (news_block (heap_alloc_new _ _) rfl) (oneE X) (by unfold maxLen; omega) (by omega) (by have := hB5.size; simp; omega) ?_; intro g2 cap2 w6 hown2 hgrow2; have hB6 : Below wx.heap.size wx w6 := below_grown (hB5.alloc hB5.size _) hgrow2 (hown1.lt g1 rfl).1 (Nat.le_refl _); obtain ⟨⟨y1, y2, y3⟩, y4, y5, y6, y7, y8⟩ := hkeep.out _ hB6)
                  | (at_builtin; refine wpList_append_any rfl _ _ 26 rfl wx.heap.size 46 i5 _ 5 64 Tryd.underlying26 hi5 hy0 hy1 hy2 rfl (by decide) g2 cap2 (at_ + 1) (rowE (M.take at_) ++ cellsE X) rfl hown2 _ (m - at_) (rowE (M.drop at_)) rfl (hhi.out _ _ _ hB6 (by first | exact ⟨rfl, rfl⟩ | exact .inr rfl | exact .inl ⟨rfl, by omega⟩ | (refine ⟨?_, by omega⟩; split <;> rfl) | (by_cases h : cc = at_; exact .inl ⟨if_pos h, by omega⟩; exact .inr (if_neg h)))) (flat_one cellsE oneE _) (by unfold maxLen; omega) (by omega) hB6.size ?_; rw [hrows.out, show at_ + 1 + (m - at_) = m + 1 by omega]; intro g3 cap3 w7 hown3 hgrow3; have hB7 : Below wx.heap.size wx w7 := below_grown hB6 hgrow3 (hown2.lt g2 rfl).1 (Nat.le_refl _); obtain ⟨⟨y1, y2, y3⟩, y4, y5, y6, y7, y8⟩ := hkeep.out _ hB7))
                all_goals
                  go_roundw
                  case rel => exact ⟨j + 1, _, _, _, _, by omega, by first | rfl | go_num | (congr 1; omega), hend.out w7 g3 cap3 hB7 hown3⟩
                  case measure => simp [intOf]; omega
              · cases e1
                have hhi : ∀ w' p' d, Below wx.heap.size wx w' → ((p' = some ⟨gM, 0, none⟩ ∧ m ≤ at_) ∨ p' = some ⟨gM, at_ * 5, none⟩) → NewsAt w' 5 (.slice p' (m - at_) d) (m - at_) (rowE (M.drop at_)) := fun w' p' d hb hp => news_hi (cs := cellsE) (fun _ => rfl) (by decide) hMl (ownB hownx hb) at_ d hat (by rcases hp with ⟨rfl, h⟩ | rfl; exact .inr (.inl ⟨h, rfl⟩); exact .inr (.inr ⟨gM, rfl, rfl⟩))
                unfold maxLen at hgm4
                have hcI : (m : Int) ≤ (cc : Int) := by omega
                have hacI : (at_ : Int) ≤ (cc : Int) := by omega
                replace hhi : Hid _ := hhi
                clear hOR hownx
                go_wp2_with (first
                  | (at_builtin; refine wpList_append_any rfl _ _ 26 rfl wx.heap.size 46 i5 _ 5 64 Tryd.underlying26 hi5 hy0 hy1 hy2 rfl (by decide) _ 0 0 [] rfl (own_empty 5 (Nat.le_refl _) (heap_alloc_new _ _)) _ at_ (rowE (M.take at_)) rfl (hlo.out _ (below_new _ _)) (flat_one cellsE oneE _) (by unfold maxLen; omega) (by omega) (by simp) ?_; intro g1 cap1 w5 hown1 hgrow1; simp only [Nat.zero_add, List.nil_append] at hown1 ⊢; have hB5 : Below wx.heap.size wx w5 := below_grown (below_new _ _) hgrow1 (Nat.le_refl _) (Nat.le_refl _); obtain ⟨⟨y1, y2, y3⟩, y4, y5, y6, y7, y8⟩ := hkeep.out _ hB5)
                  | (at_builtin; refine wpList_append_any rfl _ _ 26 rfl wx.heap.size 46 i5 _ 5 64 Tryd.underlying26 hi5 hy0 hy1 hy2 rfl (by decide) g1 cap1 at_ (rowE (M.take at_)) rfl (hown1.alloc _) _ 1 (cellsE X) rfl (news_block (heap_alloc_new _ _) rfl) (oneE X) (by unfold maxLen; omega) (by omega) (by have := hB5.size; simp; omega) ?_; intro g2 cap2 w6 hown2 hgrow2; have hB6 : Below wx.heap.size wx w6 := below_grown (hB5.alloc hB5.size _) hgrow2 (hown1.lt g1 rfl).1 (Nat.le_refl _); obtain ⟨⟨y1, y2, y3⟩, y4, y5, y6, y7, y8⟩ := hkeep.out _ hB6)
                  | (at_builtin; refine wpList_append_any rfl _ _ 26 rfl wx.heap.size 46 i5 _ 5 64 Tryd.underlying26 hi5 hy0 hy1 hy2 rfl (by decide) g2 cap2 (at_ + 1) (rowE (M.take at_) ++ cellsE X) rfl hown2 _ (m - at_) (rowE (M.drop at_)) rfl (hhi.out _ _ _ hB6 (by first | exact ⟨rfl, rfl⟩ | exact .inr rfl | exact .inl ⟨rfl, by omega⟩ | (refine ⟨?_, by omega⟩; split <;> rfl) | (by_cases h : cc = at_; exact .inl ⟨if_pos h, by omega⟩; exact .inr (if_neg h)))) (flat_one cellsE oneE _) (by unfold maxLen; omega) (by omega) hB6.size ?_; rw [hrows.out, show at_ + 1 + (m - at_) = m + 1 by omega]; intro g3 cap3 w7 hown3 hgrow3; have hB7 : Below wx.heap.size wx w7 := below_grown hB6 hgrow3 (hown2.lt g2 rfl).1 (Nat.le_refl _); obtain ⟨⟨y1, y2, y3⟩, y4, y5, y6, y7, y8⟩ := hkeep.out _ hB7))
                all_goals
                  go_roundw
                  case rel => exact ⟨j + 1, _, _, _, _, by omega, by first | rfl | go_num | (congr 1; omega), hend.out w7 g3 cap3 hB7 hown3⟩
                  case measure => simp [intOf]; omega


          · by_cases hid : j < dn
            · obtain ⟨g8, f8, ed, cd⟩ := (hD.below her.ts.bel).at j hid
              have hDi := hD.1 j
              generalize D j = v at cd hDi
              rw [ed]
              replace her : Hid _ := her
              go_upto_region 18 with fail
              case roundEnd => exact ⟨⟨j + 1, p, m, cc, M, by omega, by first | rfl | go_num | (congr 1; omega), her.out.skip (by omega)⟩, by simp [intOf]; omega⟩
              replace ed : Hid _ := ed
              clear cd hDi
              obtain ⟨hts, hNo, hown, hMl, hmj, hSS⟩ := her.out
              clear her
              generalize hz : (0 : Int) = z
              obtain ⟨at_, rfl, hat⟩ : ∃ at_ : Nat, z = (at_ : Int) ∧ at_ ≤ m := ⟨0, by rw [← hz]; rfl, by omega⟩
              clear hz
              obtain ⟨wx, rfl⟩ : ∃ x, x = wr := ⟨_, rfl⟩
              have hbx : Below wx.heap.size wx wx := Below.refl _ _
              have hts2 := hts.below hbx
              have hownx := ownB hown hbx
              have hsx := hts2.sz
              have hlo : ∀ w', Below wx.heap.size wx w' → NewsAt w' 5 (.slice p at_ cc) at_ (rowE (M.take at_)) := fun w' hb => news_lo (cs := cellsE) (fun _ => rfl) (by decide) hMl (ownB hownx hb) at_ hat
              rcases hG.h4.below hts2.bel with h0 | ⟨g0, off, ea, kk⟩
              · have := hG.l4; rw [h0] at this; simp at this; omega
              have kx := kk j (by rw [hG.l4]; exact hj)
              have htk := List.take_succ_eq_append_getElem (l := r.ed) (i := j) (by rw [hG.l4]; exact hj)
              rw [← getD_get (show j < r.ed.length by rw [hG.l4]; exact hj)] at htk
              generalize r.ed.getD j default = X at kx htk
              obtain ⟨k0, k1, k2, k3, k4, _, _, _, _, _, _, _⟩ := kx
              have q2x := hts2.r.c3
              have o2x := hts2.o.c3
              rw [ea] at q2x
              have hkeep : ∀ w', Below wx.heap.size wx w' → (w'.cell? ⟨w.heap.size, 3, none⟩ = some (.slice (some ⟨g0, off, none⟩) n4 c4) ∧ w'.cell? ⟨w.heap.size + 2, 3, none⟩ = some (.slice p m cc) ∧ w'.frozen? ⟨w.heap.size + 2, 3, none⟩ = false) ∧ w'.cell? ⟨g0, off + j * 5, none⟩ = some (.int .i64 X.id) ∧ w'.cell? ⟨g0, off + j * 5 + 1, none⟩ = some (.string X.lab) ∧ w'.cell? ⟨g0, off + j * 5 + 2, none⟩ = some (.int .i64 X.fr) ∧ w'.cell? ⟨g0, off + j * 5 + 3, none⟩ = some (.int .i64 X.tt) ∧ w'.cell? ⟨g0, off + j * 5 + 4, none⟩ = some (.slice X.p X.l X.c) := fun w' hb => ⟨⟨(hb.cell (World.block_lt_of_cell? _ _ q2x)).trans q2x, (hts2.below hb).o.c3, (hts2.below hb).o.fr 3⟩, (hb.cell (World.block_lt_of_cell? _ _ k0)).trans k0, (hb.cell (World.block_lt_of_cell? _ _ k1)).trans k1, (hb.cell (World.block_lt_of_cell? _ _ k2)).trans k2, (hb.cell (World.block_lt_of_cell? _ _ k3)).trans k3, (hb.cell (World.block_lt_of_cell? _ _ k4)).trans k4⟩
              have hend : ∀ w' g' c', Below wx.heap.size wx w' → w'.ownsRow wx.heap.size 46 5 (.slice (some ⟨g', 0, none⟩) (m + 1) c') (m + 1) (rowE (putIn M at_ X)) → ER w (w'.setCell ⟨w.heap.size + 2, 3, none⟩ (.slice (some ⟨g', 0, none⟩) (m + 1) c')) (.slice a1 n1 c1) (.slice a2 n2 c2) (.slice a3 n3 c3) (.slice a4 n4 c4) pN n3 dN MN r.ed dn (j + 1) (some ⟨g', 0, none⟩) (m + 1) c' (putIn M at_ X) := fun w' g' c' hb ho =>
                ⟨(hts2.below hb).put3 _, ownS' (ownB (ownB hNo hbx) hb) _ (by show w.heap.size + 2 < w.heap.size + 3; omega), ownL (ownS ho _ (by show w.heap.size + 2 < wx.heap.size; omega)) hsx, by rw [putIn_len M at_ X (by omega), hMl], by omega, er_next hSS htk (putIn_perm M at_ X)⟩
              have hrows : rowE (M.take at_) ++ cellsE X ++ rowE (M.drop at_) = rowE (putIn M at_ X) := by simp [rowE, putIn]
              obtain ⟨⟨y1, y2, y3⟩, y4, y5, y6, y7, y8⟩ := hkeep _ (below_new wx (.cells #[] 46))
              replace ea : Hid _ := ea
              replace hrows : Hid _ := hrows
              replace hend : Hid _ := hend
              replace hkeep : Hid _ := hkeep
              replace hlo : Hid _ := hlo
              replace htk : Hid _ := htk
              have hatI : (at_ : Int) ≤ (m : Int) := by omega
              have hjI : (j : Int) < (n4 : Int) := by omega
              clear k0 k1 k2 k3 k4 q2x o2x q2 o2 kk
              rcases own_row (cs := cellsE) (fun _ => rfl) hMl hownx with ⟨e1, e2, e3⟩ | ⟨gM, capM, e1, hgm1, hgm2, hgm3, hgm4, hOR⟩
              · simp only [Value.slice.injEq] at e1
                obtain ⟨rfl, -, rfl⟩ := e1
                have hhi : ∀ w' p' d, Below wx.heap.size wx w' → (p' = none ∧ d = 0) → NewsAt w' 5 (.slice p' (m - at_) d) (m - at_) (rowE (M.drop at_)) := fun w' p' d hb hp => by
                  obtain ⟨rfl, rfl⟩ := hp
                  exact .inl ⟨by rw [show m - at_ = 0 by omega], by omega, by rw [e3]; simp [rowE]⟩
                have hat0 : (at_ : Int) ≤ 0 := by omega
                have hat1 : at_ = 0 := by omega
                replace hhi : Hid _ := hhi
                replace e3 : Hid _ := e3
                replace e2 : Hid _ := e2
                replace hat1 : Hid _ := hat1
                clear hownx
                go_wp2_with (first
                  | (at_builtin; refine wpList_append_any rfl _ _ 26 rfl wx.heap.size 46 i5 _ 5 64 Tryd.underlying26 hi5 hy0 hy1 hy2 rfl (by decide) _ 0 0 [] rfl (own_empty 5 (Nat.le_refl _) (heap_alloc_new _ _)) _ at_ (rowE (M.take at_)) rfl (hlo.out _ (below_new _ _)) (flat_one cellsE oneE _) (by unfold maxLen; omega) (by omega) (by simp) ?_; intro g1 cap1 w5 hown1 hgrow1; simp only [Nat.zero_add, List.nil_append] at hown1 ⊢; have hB5 : Below wx.heap.size wx w5 := below_grown (below_new _ _) hgrow1 (Nat.le_refl _) (Nat.le_refl _); obtain ⟨⟨y1, y2, y3⟩, y4, y5, y6, y7, y8⟩ := hkeep.out _ hB5)
                  | (at_builtin; refine wpList_append_any rfl _ _ 26 rfl wx.heap.size 46 i5 _ 5 64 Tryd.underlying26 hi5 hy0 hy1 hy2 rfl (by decide) g1 cap1 at_ (rowE (M.take at_)) rfl (hown1.alloc _) _ 1 (cellsE X) rfl (news_block (heap_alloc_new _ _) rfl) (oneE X) (by unfold maxLen; omega) (by omega) (by have := hB5.size; simp; omega) ?_; intro g2 cap2 w6 hown2 hgrow2; have hB6 : Below wx.heap.size wx w6 := below_grown (hB5.alloc hB5.size _) hgrow2 (hown1.lt g1 rfl).1 (Nat.le_refl _); obtain ⟨⟨y1, y2, y3⟩, y4, y5, y6, y7, y8⟩ := hkeep.out _ hB6)
                  | (at_builtin; refine wpList_append_any rfl _ _ 26 rfl wx.heap.size 46 i5 _ 5 64 Tryd.underlying26 hi5 hy0 hy1 hy2 rfl (by decide) g2 cap2 (at_ + 1) (rowE (M.take at_) ++ cellsE X) rfl hown2 _ (m - at_) (rowE (M.drop at_)) rfl (hhi.out _ _ _ hB6 (by first | exact ⟨rfl, rfl⟩ | exact .inr rfl | exact .inl ⟨rfl, by omega⟩ | (refine ⟨?_, by omega⟩; split <;> rfl) | (by_cases h : cc = at_; exact .inl ⟨if_pos h, by omega⟩; exact .inr (if_neg h)))) (flat_one cellsE oneE _) (by unfold maxLen; omega) (by omega) hB6.size ?_; rw [hrows.out, show at_ + 1 + (m - at_) = m + 1 by omega]; intro g3 cap3 w7 hown3 hgrow3; have hB7 : Below wx.heap.size wx w7 := below_grown hB6 hgrow3 (hown2.lt g2 rfl).1 (Nat.le_refl _); obtain ⟨⟨y1, y2, y3⟩, y4, y5, y6, y7, y8⟩ := hkeep.out _ hB7))
                all_goals
                  go_roundw
                  case rel => exact ⟨j + 1, _, _, _, _, by omega, by first | rfl | go_num | (congr 1; omega), hend.out w7 g3 cap3 hB7 hown3⟩
                  case measure => simp [intOf]; omega
              · cases e1
                have hhi : ∀ w' p' d, Below wx.heap.size wx w' → ((p' = some ⟨gM, 0, none⟩ ∧ m ≤ at_) ∨ p' = some ⟨gM, at_ * 5, none⟩) → NewsAt w' 5 (.slice p' (m - at_) d) (m - at_) (rowE (M.drop at_)) := fun w' p' d hb hp => news_hi (cs := cellsE) (fun _ => rfl) (by decide) hMl (ownB hownx hb) at_ d hat (by rcases hp with ⟨rfl, h⟩ | rfl; exact .inr (.inl ⟨h, rfl⟩); exact .inr (.inr ⟨gM, rfl, rfl⟩))
                unfold maxLen at hgm4
                have hcI : (m : Int) ≤ (cc : Int) := by omega
                have hacI : (at_ : Int) ≤ (cc : Int) := by omega
                replace hhi : Hid _ := hhi
                clear hOR hownx
                go_wp2_with (first
                  | (at_builtin; refine wpList_append_any rfl _ _ 26 rfl wx.heap.size 46 i5 _ 5 64 Tryd.underlying26 hi5 hy0 hy1 hy2 rfl (by decide) _ 0 0 [] rfl (own_empty 5 (Nat.le_refl _) (heap_alloc_new _ _)) _ at_ (rowE (M.take at_)) rfl (hlo.out _ (below_new _ _)) (flat_one cellsE oneE _) (by unfold maxLen; omega) (by omega) (by simp) ?_; intro g1 cap1 w5 hown1 hgrow1; simp only [Nat.zero_add, List.nil_append] at hown1 ⊢; have hB5 : Below wx.heap.size wx w5 := below_grown (below_new _ _) hgrow1 (Nat.le_refl _) (Nat.le_refl _); obtain ⟨⟨y1, y2, y3⟩, y4, y5, y6, y7, y8⟩ := hkeep.out _ hB5)
                  | (at_builtin; refine wpList_append_any rfl _ _ 26 rfl wx.heap.size 46 i5 _ 5 64 Tryd.underlying26 hi5 hy0 hy1 hy2 rfl (by decide) g1 cap1 at_ (rowE (M.take at_)) rfl (hown1.alloc _) _ 1 (cellsE X) rfl (news_block (heap_alloc_new _ _) rfl) (oneE X) (by unfold maxLen; omega) (by omega) (by have := hB5.size; simp; omega) ?_; intro g2 cap2 w6 hown2 hgrow2; have hB6 : Below wx.heap.size wx w6 := below_grown (hB5.alloc hB5.size _) hgrow2 (hown1.lt g1 rfl).1 (Nat.le_refl _); obtain ⟨⟨y1, y2, y3⟩, y4, y5, y6, y7, y8⟩ := hkeep.out _ hB6)
                  | (at_builtin; refine wpList_append_any rfl _ _ 26 rfl wx.heap.size 46 i5 _ 5 64 Tryd.underlying26 hi5 hy0 hy1 hy2 rfl (by decide) g2 cap2 (at_ + 1) (rowE (M.take at_) ++ cellsE X) rfl hown2 _ (m - at_) (rowE (M.drop at_)) rfl (hhi.out _ _ _ hB6 (by first | exact ⟨rfl, rfl⟩ | exact .inr rfl | exact .inl ⟨rfl, by omega⟩ | (refine ⟨?_, by omega⟩; split <;> rfl) | (by_cases h : cc = at_; exact .inl ⟨if_pos h, by omega⟩; exact .inr (if_neg h)))) (flat_one cellsE oneE _) (by unfold maxLen; omega) (by omega) hB6.size ?_; rw [hrows.out, show at_ + 1 + (m - at_) = m + 1 by omega]; intro g3 cap3 w7 hown3 hgrow3; have hB7 : Below wx.heap.size wx w7 := below_grown hB6 hgrow3 (hown2.lt g2 rfl).1 (Nat.le_refl _); obtain ⟨⟨y1, y2, y3⟩, y4, y5, y6, y7, y8⟩ := hkeep.out _ hB7))
                all_goals
                  go_roundw
                  case rel => exact ⟨j + 1, _, _, _, _, by omega, by first | rfl | go_num | (congr 1; omega), hend.out w7 g3 cap3 hB7 hown3⟩
                  case measure => simp [intOf]; omega


            · replace her : Hid _ := her
              go_upto_region 18 with fail
              obtain ⟨hts, hNo, hown, hMl, hmj, hSS⟩ := her.out
              clear her
              generalize hz : (0 : Int) = z
              obtain ⟨at_, rfl, hat⟩ : ∃ at_ : Nat, z = (at_ : Int) ∧ at_ ≤ m := ⟨0, by rw [← hz]; rfl, by omega⟩
              clear hz
              obtain ⟨wx, rfl⟩ : ∃ x, x = wr := ⟨_, rfl⟩
              have hbx : Below wx.heap.size wx wx := Below.refl _ _
              have hts2 := hts.below hbx
              have hownx := ownB hown hbx
              have hsx := hts2.sz
              have hlo : ∀ w', Below wx.heap.size wx w' → NewsAt w' 5 (.slice p at_ cc) at_ (rowE (M.take at_)) := fun w' hb => news_lo (cs := cellsE) (fun _ => rfl) (by decide) hMl (ownB hownx hb) at_ hat
              rcases hG.h4.below hts2.bel with h0 | ⟨g0, off, ea, kk⟩
              · have := hG.l4; rw [h0] at this; simp at this; omega
              have kx := kk j (by rw [hG.l4]; exact hj)
              have htk := List.take_succ_eq_append_getElem (l := r.ed) (i := j) (by rw [hG.l4]; exact hj)
              rw [← getD_get (show j < r.ed.length by rw [hG.l4]; exact hj)] at htk
              generalize r.ed.getD j default = X at kx htk
              obtain ⟨k0, k1, k2, k3, k4, _, _, _, _, _, _, _⟩ := kx
              have q2x := hts2.r.c3
              have o2x := hts2.o.c3
              rw [ea] at q2x
              have hkeep : ∀ w', Below wx.heap.size wx w' → (w'.cell? ⟨w.heap.size, 3, none⟩ = some (.slice (some ⟨g0, off, none⟩) n4 c4) ∧ w'.cell? ⟨w.heap.size + 2, 3, none⟩ = some (.slice p m cc) ∧ w'.frozen? ⟨w.heap.size + 2, 3, none⟩ = false) ∧ w'.cell? ⟨g0, off + j * 5, none⟩ = some (.int .i64 X.id) ∧ w'.cell? ⟨g0, off + j * 5 + 1, none⟩ = some (.string X.lab) ∧ w'.cell? ⟨g0, off + j * 5 + 2, none⟩ = some (.int .i64 X.fr) ∧ w'.cell? ⟨g0, off + j * 5 + 3, none⟩ = some (.int .i64 X.tt) ∧ w'.cell? ⟨g0, off + j * 5 + 4, none⟩ = some (.slice X.p X.l X.c) := fun w' hb => ⟨⟨(hb.cell (World.block_lt_of_cell? _ _ q2x)).trans q2x, (hts2.below hb).o.c3, (hts2.below hb).o.fr 3⟩, (hb.cell (World.block_lt_of_cell? _ _ k0)).trans k0, (hb.cell (World.block_lt_of_cell? _ _ k1)).trans k1, (hb.cell (World.block_lt_of_cell? _ _ k2)).trans k2, (hb.cell (World.block_lt_of_cell? _ _ k3)).trans k3, (hb.cell (World.block_lt_of_cell? _ _ k4)).trans k4⟩
              have hend : ∀ w' g' c', Below wx.heap.size wx w' → w'.ownsRow wx.heap.size 46 5 (.slice (some ⟨g', 0, none⟩) (m + 1) c') (m + 1) (rowE (putIn M at_ X)) → ER w (w'.setCell ⟨w.heap.size + 2, 3, none⟩ (.slice (some ⟨g', 0, none⟩) (m + 1) c')) (.slice a1 n1 c1) (.slice a2 n2 c2) (.slice a3 n3 c3) (.slice a4 n4 c4) pN n3 dN MN r.ed dn (j + 1) (some ⟨g', 0, none⟩) (m + 1) c' (putIn M at_ X) := fun w' g' c' hb ho =>
                ⟨(hts2.below hb).put3 _, ownS' (ownB (ownB hNo hbx) hb) _ (by show w.heap.size + 2 < w.heap.size + 3; omega), ownL (ownS ho _ (by show w.heap.size + 2 < wx.heap.size; omega)) hsx, by rw [putIn_len M at_ X (by omega), hMl], by omega, er_next hSS htk (putIn_perm M at_ X)⟩
              have hrows : rowE (M.take at_) ++ cellsE X ++ rowE (M.drop at_) = rowE (putIn M at_ X) := by simp [rowE, putIn]
              obtain ⟨⟨y1, y2, y3⟩, y4, y5, y6, y7, y8⟩ := hkeep _ (below_new wx (.cells #[] 46))
              replace ea : Hid _ := ea
              replace hrows : Hid _ := hrows
              replace hend : Hid _ := hend
              replace hkeep : Hid _ := hkeep
              replace hlo : Hid _ := hlo
              replace htk : Hid _ := htk
              have hatI : (at_ : Int) ≤ (m : Int) := by omega
              have hjI : (j : Int) < (n4 : Int) := by omega
              clear k0 k1 k2 k3 k4 q2x o2x q2 o2 kk
              rcases own_row (cs := cellsE) (fun _ => rfl) hMl hownx with ⟨e1, e2, e3⟩ | ⟨gM, capM, e1, hgm1, hgm2, hgm3, hgm4, hOR⟩
              · simp only [Value.slice.injEq] at e1
                obtain ⟨rfl, -, rfl⟩ := e1
                have hhi : ∀ w' p' d, Below wx.heap.size wx w' → (p' = none ∧ d = 0) → NewsAt w' 5 (.slice p' (m - at_) d) (m - at_) (rowE (M.drop at_)) := fun w' p' d hb hp => by
                  obtain ⟨rfl, rfl⟩ := hp
                  exact .inl ⟨by rw [show m - at_ = 0 by omega], by omega, by rw [e3]; simp [rowE]⟩
                have hat0 : (at_ : Int) ≤ 0 := by omega
                have hat1 : at_ = 0 := by omega
                replace hhi : Hid _ := hhi
                replace e3 : Hid _ := e3
                replace e2 : Hid _ := e2
                replace hat1 : Hid _ := hat1
                clear hownx
                go_wp2_with (first
                  | (at_builtin; refine wpList_append_any rfl _ _ 26 rfl wx.heap.size 46 i5 _ 5 64 Tryd.underlying26 hi5 hy0 hy1 hy2 rfl (by decide) _ 0 0 [] rfl (own_empty 5 (Nat.le_refl _) (heap_alloc_new _ _)) _ at_ (rowE (M.take at_)) rfl (hlo.out _ (below_new _ _)) (flat_one cellsE oneE _) (by unfold maxLen; omega) (by omega) (by simp) ?_; intro g1 cap1 w5 hown1 hgrow1; simp only [Nat.zero_add, List.nil_append] at hown1 ⊢; have hB5 : Below wx.heap.size wx w5 := below_grown (below_new _ _) hgrow1 (Nat.le_refl _) (Nat.le_refl _); obtain ⟨⟨y1, y2, y3⟩, y4, y5, y6, y7, y8⟩ := hkeep.out _ hB5)
                  | (at_builtin; refine wpList_append_any rfl _ _ 26 rfl wx.heap.size 46 i5 _ 5 64 Tryd.underlying26 hi5 hy0 hy1 hy2 rfl (by decide) g1 cap1 at_ (rowE (M.take at_)) rfl (hown1.alloc _) _ 1 (cellsE X) rfl (news_block (heap_alloc_new _ _) rfl) (oneE X) (by unfold maxLen; omega) (by omega) (by have := hB5.size; simp; omega) ?_; intro g2 cap2 w6 hown2 hgrow2; have hB6 : Below wx.heap.size wx w6 := below_grown (hB5.alloc hB5.size _) hgrow2 (hown1.lt g1 rfl).1 (Nat.le_refl _); obtain ⟨⟨y1, y2, y3⟩, y4, y5, y6, y7, y8⟩ := hkeep.out _ hB6)
                  | (at_builtin; refine wpList_append_any rfl _ _ 26 rfl wx.heap.size 46 i5 _ 5 64 Tryd.underlying26 hi5 hy0 hy1 hy2 rfl (by decide) g2 cap2 (at_ + 1) (rowE (M.take at_) ++ cellsE X) rfl hown2 _ (m - at_) (rowE (M.drop at_)) rfl (hhi.out _ _ _ hB6 (by first | exact ⟨rfl, rfl⟩ | exact .inr rfl | exact .inl ⟨rfl, by omega⟩ | (refine ⟨?_, by omega⟩; split <;> rfl) | (by_cases h : cc = at_; exact .inl ⟨if_pos h, by omega⟩; exact .inr (if_neg h)))) (flat_one cellsE oneE _) (by unfold maxLen; omega) (by omega) hB6.size ?_; rw [hrows.out, show at_ + 1 + (m - at_) = m + 1 by omega]; intro g3 cap3 w7 hown3 hgrow3; have hB7 : Below wx.heap.size wx w7 := below_grown hB6 hgrow3 (hown2.lt g2 rfl).1 (Nat.le_refl _); obtain ⟨⟨y1, y2, y3⟩, y4, y5, y6, y7, y8⟩ := hkeep.out _ hB7))
                all_goals
                  go_roundw
                  case rel => exact ⟨j + 1, _, _, _, _, by omega, by first | rfl | go_num | (congr 1; omega), hend.out w7 g3 cap3 hB7 hown3⟩
                  case measure => simp [intOf]; omega
              · cases e1
                have hhi : ∀ w' p' d, Below wx.heap.size wx w' → ((p' = some ⟨gM, 0, none⟩ ∧ m ≤ at_) ∨ p' = some ⟨gM, at_ * 5, none⟩) → NewsAt w' 5 (.slice p' (m - at_) d) (m - at_) (rowE (M.drop at_)) := fun w' p' d hb hp => news_hi (cs := cellsE) (fun _ => rfl) (by decide) hMl (ownB hownx hb) at_ d hat (by rcases hp with ⟨rfl, h⟩ | rfl; exact .inr (.inl ⟨h, rfl⟩); exact .inr (.inr ⟨gM, rfl, rfl⟩))
                unfold maxLen at hgm4
                have hcI : (m : Int) ≤ (cc : Int) := by omega
                have hacI : (at_ : Int) ≤ (cc : Int) := by omega
                replace hhi : Hid _ := hhi
                clear hOR hownx
                go_wp2_with (first
                  | (at_builtin; refine wpList_append_any rfl _ _ 26 rfl wx.heap.size 46 i5 _ 5 64 Tryd.underlying26 hi5 hy0 hy1 hy2 rfl (by decide) _ 0 0 [] rfl (own_empty 5 (Nat.le_refl _) (heap_alloc_new _ _)) _ at_ (rowE (M.take at_)) rfl (hlo.out _ (below_new _ _)) (flat_one cellsE oneE _) (by unfold maxLen; omega) (by omega) (by simp) ?_; intro g1 cap1 w5 hown1 hgrow1; simp only [Nat.zero_add, List.nil_append] at hown1 ⊢; have hB5 : Below wx.heap.size wx w5 := below_grown (below_new _ _) hgrow1 (Nat.le_refl _) (Nat.le_refl _); obtain ⟨⟨y1, y2, y3⟩, y4, y5, y6, y7, y8⟩ := hkeep.out _ hB5)
                  | (at_builtin; refine wpList_append_any rfl _ _ 26 rfl wx.heap.size 46 i5 _ 5 64 Tryd.underlying26 hi5 hy0 hy1 hy2 rfl (by decide) g1 cap1 at_ (rowE (M.take at_)) rfl (hown1.alloc _) _ 1 (cellsE X) rfl (news_block (heap_alloc_new _ _) rfl) (oneE X) (by unfold maxLen; omega) (by omega) (by have := hB5.size; simp; omega) ?_; intro g2 cap2 w6 hown2 hgrow2; have hB6 : Below wx.heap.size wx w6 := below_grown (hB5.alloc hB5.size _) hgrow2 (hown1.lt g1 rfl).1 (Nat.le_refl _); obtain ⟨⟨y1, y2, y3⟩, y4, y5, y6, y7, y8⟩ := hkeep.out _ hB6)
                  | (at_builtin; refine wpList_append_any rfl _ _ 26 rfl wx.heap.size 46 i5 _ 5 64 Tryd.underlying26 hi5 hy0 hy1 hy2 rfl (by decide) g2 cap2 (at_ + 1) (rowE (M.take at_) ++ cellsE X) rfl hown2 _ (m - at_) (rowE (M.drop at_)) rfl (hhi.out _ _ _ hB6 (by first | exact ⟨rfl, rfl⟩ | exact .inr rfl | exact .inl ⟨rfl, by omega⟩ | (refine ⟨?_, by omega⟩; split <;> rfl) | (by_cases h : cc = at_; exact .inl ⟨if_pos h, by omega⟩; exact .inr (if_neg h)))) (flat_one cellsE oneE _) (by unfold maxLen; omega) (by omega) hB6.size ?_; rw [hrows.out, show at_ + 1 + (m - at_) = m + 1 by omega]; intro g3 cap3 w7 hown3 hgrow3; have hB7 : Below wx.heap.size wx w7 := below_grown hB6 hgrow3 (hown2.lt g2 rfl).1 (Nat.le_refl _); obtain ⟨⟨y1, y2, y3⟩, y4, y5, y6, y7, y8⟩ := hkeep.out _ hB7))
                all_goals
                  go_roundw
                  case rel => exact ⟨j + 1, _, _, _, _, by omega, by first | rfl | go_num | (congr 1; omega), hend.out w7 g3 cap3 hB7 hown3⟩
                  case measure => simp [intOf]; omega


        · obtain rfl : n4 = j := by omega
          obtain ⟨hts, hNo, hown, hMl, hmj, hSS⟩ := her
          obtain ⟨x0, x1, x2, x3, -⟩ := hts.o
          obtain ⟨z0, z1, z2, z3, zf⟩ := hts.q
          have zf0 := zf 0
          have zf1 := zf 1
          have zf2 := zf 2
          have zf3 := zf 3
          have hbel := hts.bel
          replace hNo : Hid _ := hNo
          replace hown : Hid _ := hown
          replace hSS : Hid _ := hSS
          clear zf hts q2 o2
          go_wp2_with fail
          obtain ⟨s0, s1, s2, s3⟩ := put4 wr (w.heap.size + 1) (.slice a1 n1 c1) (.slice a2 n2 c2) (.slice pN n3 dN) (.slice p m cc) _ _ _ _ z0 z1 z2 z3
          have hO := only4 wr (w.heap.size + 1) (.slice a1 n1 c1) (.slice a2 n2 c2) (.slice pN n3 dN) (.slice p m cc)
          have hbl := hbel.trans (hO.below hbel.size (fun k hk => by omega))
          have hq : (⟨w.heap.size + 1, 0, none⟩ : Addr).block < w.heap.size + 3 := by show w.heap.size + 1 < _; omega
          have fN := ownS' (ownS' (ownS' (ownS' hNo.out (p := ⟨w.heap.size + 1, 0, none⟩) (.slice a1 n1 c1) hq) (p := ⟨w.heap.size + 1, 1, none⟩) (.slice a2 n2 c2) hq) (p := ⟨w.heap.size + 1, 2, none⟩) (.slice pN n3 dN) hq) (p := ⟨w.heap.size + 1, 3, none⟩) (.slice p m cc) hq
          have fE := ownS' (ownS' (ownS' (ownS' hown.out (p := ⟨w.heap.size + 1, 0, none⟩) (.slice a1 n1 c1) hq) (p := ⟨w.heap.size + 1, 1, none⟩) (.slice a2 n2 c2) hq) (p := ⟨w.heap.size + 1, 2, none⟩) (.slice pN n3 dN) hq) (p := ⟨w.heap.size + 1, 3, none⟩) (.slice p m cc) hq
          generalize (((wr.setCell ⟨w.heap.size + 1, 0, none⟩ (.slice a1 n1 c1)).setCell ⟨w.heap.size + 1, 1, none⟩ (.slice a2 n2 c2)).setCell ⟨w.heap.size + 1, 2, none⟩ (.slice pN n3 dN)).setCell ⟨w.heap.size + 1, 3, none⟩ (.slice p m cc) = W2 at s0 s1 s2 s3 hbl fN fE ⊢
          obtain ⟨S, t1, t2, t3⟩ := hSS.out
          rw [List.take_of_length_le (by rw [hG.l4]; omega)] at t1 t3
          have hn := own_nds fN hMNl (fun x hx => ok_mem_n (hG.h3.below hbl) x (hMp'.out.mem_iff.1 hx))
          have he := own_eds fE hMl (fun x hx => ok_mem_e (hG.h4.below hbl) x (t1.subset (t2.mem_iff.1 hx)))
          refine bodyPost_ret (by simp [results, Tryd.results16, go_sem, s0, s1, s2, s3]; try rfl) rfl ?_
          exact ⟨⟨pN, n3, dN, p, m, cc, ⟨r.nt, r.et, MN, M⟩, rfl, ⟨hG.l1, hG.k1, hG.m1, hG.h1.below hbl, hG.l2, hG.k2, hG.m2, hG.h2.below hbl, hMNl, hn.1, b3, hn.2, hMl, he.1, by omega, he.2⟩, rfl, rfl, hMp'.out, ⟨S, t1, t2⟩, fun e => by rw [← t3 e]; exact t2⟩, hbl⟩
end Go.Proofs.YtmioohbailhppaaDoor
