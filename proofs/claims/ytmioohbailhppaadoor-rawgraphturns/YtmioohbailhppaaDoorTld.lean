/-
  A record's properties, those that are not null, as the document tells them: told.
-/
import Derived.Test.YtmioohbailhppaaDoorSpr
import Derived.Lib.QuietBelow
import Derived.BigQuiet
namespace Go.Proofs.YtmioohbailhppaaDoor
open Go.RowKit Go.Sort
set_option linter.unusedSimpArgs false
set_option linter.unusedVariables false

/-- Of that name, and not null? -/
def isV (s : ByteArray) (x : PV) : Bool := decide (x.n = s) && !decide (x.v.k = 0)
def tldV (D : List PD) (L : List PV) : List PV := D.flatMap fun d => L.filter (isV d.n)
theorem tldV_more (D : List PD) (L : List PV) (j : Nat) (hj : j < D.length) : tldV (D.take (j + 1)) L = tldV (D.take j) L ++ L.filter (isV (D.getD j default).n) := by
  rw [List.take_succ_eq_append_getElem hj, tldV, List.flatMap_append]
  simp [tldV, List.getD, List.getElem?_eq_getElem hj]
theorem tldV_len : ∀ (D : List PD) (L : List PV), (tldV D L).length ≤ D.length * L.length
  | [], _ => by simp [tldV]
  | d :: D, L => by
    have h1 := tldV_len D L
    have h2 := List.length_filter_le (isV d.n) L
    simp only [tldV, List.flatMap_cons, List.length_append, List.length_cons, Nat.add_mul, Nat.one_mul] at *
    omega
theorem filt_more (f : PV → Bool) (L : List PV) (q : Nat) (hq : q < L.length) : (L.take (q + 1)).filter f = (L.take q).filter f ++ (if f (L.getD q default) then [L.getD q default] else []) := by
  rw [List.take_succ_eq_append_getElem hq, List.filter_append]
  simp only [List.getD, List.getElem?_eq_getElem hq, Option.getD_some]
  cases h : f L[q] <;> simp [h]
/-- A property behind a row of properties, in one block more. -/
theorem app_two {w w1 : World} {b : Nat} {S : List PV} {v : Value} (ho : w1.ownsRow b 102 6 v S.length (rowV S)) (hb : Below w.heap.size w w1) (hwb : w.heap.size ≤ b) (hbw : b ≤ w1.heap.size) (y : PV) :
    (w1.alloc (.cells (cellsV y).toArray 102)).ownsRow b 102 6 v S.length (rowV S) ∧
    (∀ j u, (cellsV y)[j]? = some u → (w1.alloc (.cells (cellsV y).toArray 102)).cell? ((⟨w1.heap.size, 0, none⟩ : Addr).add j) = some u) ∧
    (∀ v' w', w'.ownsRow b 102 6 v' (S.length + 1) (rowV S ++ cellsV y) → (w1.alloc (.cells (cellsV y).toArray 102)).grownBy w' v.ownBlock →
      ∃ p c, v' = .slice p (S.length + 1) c ∧ w'.ownsRow b 102 6 (.slice p (S.length + 1) c) (S.length + 1) (rowV (S ++ [y])) ∧ Below w.heap.size w w') ∧ b ≤ (w1.alloc (.cells (cellsV y).toArray 102)).heap.size := by
  have hB : Below w1.heap.size w1 (w1.alloc (.cells (cellsV y).toArray 102)) := below_new _ _
  refine ⟨own_low ho hB, fun j u hu => ?_, fun v' w' hown hg => ?_, Nat.le_trans hbw hB.size⟩
  · exact World.news_of_block (heap_alloc_new _ _) j u (by simpa using hu)
  · obtain ⟨p, c, rfl⟩ := own_slice hown
    refine ⟨p, c, rfl, by simpa [rowV] using hown, grown_below (below_on hb hB) hg (fun k hk => Nat.le_trans hwb (own_base ho k hk)) (Nat.le_refl _)⟩
theorem own_lower {w : World} {b b' : Nat} {e : TypeId} {size : Nat} {v : Value} {n : Nat} {xs : List Value} (h : w.ownsRow b e size v n xs) (hb : b' ≤ b) : w.ownsRow b' e size v n xs := by
  refine ⟨h.1, ?_⟩
  rcases h.2 with h0 | ⟨g, cap, cur, e1, h2, h3⟩
  · exact .inl h0
  · exact .inr ⟨g, cap, cur, e1, Nat.le_trans hb h2, h3⟩
/-- A cell of a block that the row is not. -/
theorem _root_.Go.World.grownBy.cellK {w w' : World} {base : Nat} {e : TypeId} {size : Nat} {v : Value} {n : Nat} {xs : List Value} (hg : w.grownBy w' v.ownBlock) (ho : w.ownsRow base e size v n xs) {B j : Nat} {u : Value} (h : w.cell? ⟨B, j, none⟩ = some u) (hB : ∀ k, v.ownBlock = some k → k ≠ B) : w'.cell? ⟨B, j, none⟩ = some u :=
  (cell_of_block (a := ⟨B, j, none⟩) (hg.block B (World.block_lt_of_cell? w _ h) (fun e => hB B e.symm rfl))).trans h

set_option maxRecDepth 100000 in
set_option maxHeartbeats 4000000 in
theorem told_own (s0 : ByteArray) (a : Option Addr) (n c : Nat) (D : List PD) (va : Option Addr) (vn vc : Nat) (L : List PV) (w : World) (hn : D.length = n) (hm : n ≤ 32) (hD : PDsAt w a D) (hv : L.length = vn) (hvm : vn ≤ 32) (hL : PVsAt w va L) :
    Calls Tryd.prog 31 #[.agg #[.string s0, .slice a n c], .slice va vn vc] w fun e w' => ∃ u, e = .returned u ∧ w'.ownsRow w.heap.size 102 6 u (tldV D L).length (rowV (tldV D L)) ∧ Below w.heap.size w w' := by
  obtain ⟨i0, hi0, hz0, hz1, hz2⟩ := info_parts info102
  have hb0 := below_new w (.cells #[.string s0, .slice a n c] 51)
  have v1 : (w.alloc (.cells #[.string s0, .slice a n c] 51)).cell? ⟨w.heap.size, 1, none⟩ = some (.slice a n c) := by simp only [World.cell?, heap_alloc_new]; simp
  go_enter Tryd.func31, Tryd.ntmps31
  go_wp2_with fail
  generalize w.alloc (.cells #[.string s0, .slice a n c] 51) = W at hb0 v1 ⊢
  go_loopw [6, 5] (fun i o wr => ∃ (j : Nat), j ≤ n ∧ i = .int .i64 j ∧ wr.ownsRow (w.heap.size + 1) 102 6 o (tldV (D.take j) L).length (rowV (tldV (D.take j) L)) ∧ Below w.heap.size w wr ∧ wr.cell? ⟨w.heap.size, 1, none⟩ = some (.slice a n c)) (fun i o _ => n - (intOf i).toNat)
  case atStart => exact ⟨0, by omega, rfl, World.ownsRow_nil _ _ _ _, hb0, v1⟩
  case round =>
    obtain ⟨j, j1, rfl, ho, hb, hv1⟩ := hrel
    obtain ⟨op, oc, rfl⟩ := own_slice ho
    clear v1
    by_cases hj : j < n
    · have hmore := tldV_more D L j (by omega)
      have hlen := tldV_len (D.take j) L
      have hlen2 : (D.take j).length ≤ 32 := by simp; omega
      have hlen3 : (D.take j).length * L.length ≤ 1024 := Nat.le_trans (Nat.mul_le_mul hlen2 (by omega : L.length ≤ 32)) (by decide)
      generalize hgS : tldV (D.take j) L = S at ho hmore hlen
      replace hgS : Hid _ := hgS
      replace hmore : Hid _ := hmore
      go_wp2_with fail
      go_loopw [7, 5] (fun k o wr => ∃ (q : Nat), q ≤ vn ∧ k = .int .i64 q ∧ wr.ownsRow (w.heap.size + 1) 102 6 o (S ++ (L.take q).filter (isV (D.getD j default).n)).length (rowV (S ++ (L.take q).filter (isV (D.getD j default).n))) ∧ Below w.heap.size w wr ∧ wr.cell? ⟨w.heap.size, 1, none⟩ = some (.slice a n c)) (fun k o _ => vn - (intOf k).toNat)
      case atStart => exact ⟨0, by omega, rfl, by simpa using ho, hb, hv1⟩
      case round =>
        obtain ⟨q, q1, rfl, hp, hbq, hvq⟩ := hrel
        obtain ⟨pp, pc, rfl⟩ := own_slice hp
        clear ho hb hv1
        by_cases hq : q < vn
        · have hDr := hD.below hbq
          have hLr := hL.below hbq
          rcases hDr with hD0 | ⟨y, o, ea, hyy⟩
          · rw [hD0] at hn; simp at hn; omega
          rcases hLr with hL0 | ⟨z, p, ev, hzz⟩
          · rw [hL0] at hv; simp at hv; omega
          have hyj := (hyy j (by omega)).c0
          have hzq := hzz q (by omega)
          have hfm : S ++ (L.take (q + 1)).filter (isV (D.getD j default).n) = (S ++ (L.take q).filter (isV (D.getD j default).n)) ++ (if isV (D.getD j default).n (L.getD q default) then [L.getD q default] else []) := by
            rw [filt_more _ L q (by omega), List.append_assoc]
          have hfl := List.length_filter_le (isV (D.getD j default).n) (L.take q)
          have hfl2 : (L.take q).length ≤ 32 := by simp; omega
          have hsl : (S ++ (L.take q).filter (isV (D.getD j default).n)).length ≤ 1056 := by rw [List.length_append]; omega
          generalize hNew : S ++ (L.take (q + 1)).filter (isV (D.getD j default).n) = NEW at hfm
          replace hNew : Hid _ := hNew
          generalize hSR : S ++ (L.take q).filter (isV (D.getD j default).n) = SR at hp hsl hfm ⊢
          replace hSR : Hid _ := hSR
          generalize D.getD j default = X at hyj hfm hNew hSR ⊢
          generalize L.getD q default = Z at hzq hfm
          have hiv : isV X.n Z = (decide (Z.n = X.n) && !decide (Z.v.k = 0)) := rfl
          rw [hiv] at hfm
          obtain ⟨n0, n1, n2, n3, n4, n5, _, _, _, _⟩ := hzq
          rw [ea] at hvq
          have evK := ev
          replace ea : Hid _ := ea
          have e0 := cell_regrown n0
          have e1 := cell_regrown n1
          have e2 := cell_regrown hyj
          have s0 := cell_regrown hvq
          have hjn' : (j : Int) < (n : Int) := by omega
          have hqn' : (q : Int) < (vn : Int) := by omega
          subst ev
          clear evK hiv hfl hfl2 hlen hlen2 hlen3 hzz hyy
          cases he : decide (Z.n = X.n)
          case false =>
            have hbe : (Z.n.toList == X.n.toList) = false := by rw [size_ne]; exact he
            rw [he] at hfm
            simp at hfm
            go_wp2_with fail
            focus
              refine wp_region_quiet_below (by kernel_rfl) (by kernel_rfl) ?_
              repeat (first | go_big_quiet_step (fail) | quiet_step (fail))
              refine wpQuiet_nil ?_
              intro _ hw'
              obtain ⟨⟨dq, osq⟩, hw''⟩ := hw'
              subst hw''
              have hbr := below_regrown wr dq osq
              have hb5 := below_on hbq hbr
              replace hvq := s0 dq osq
              go_wp2_with fail
              all_goals try (exfalso; simp_all; done)
              exact ⟨⟨q + 1, by omega, rfl, by rw [hNew.out, hfm]; exact own_low hp hbr, hb5, by rw [ea.out]; exact hvq⟩, by show vn - ((q : Int) + 1).toNat < vn - (q : Int).toNat; omega⟩
          case true =>
            have hbe : (Z.n.toList == X.n.toList) = true := by rw [size_ne]; exact he
            rw [he] at hfm
            cases hk : decide (Z.v.k = 0)
            case true =>
              rw [hk] at hfm
              simp at hfm
              have hk2 : (Z.v.k != 0) = false := by simpa using hk
              go_wp2_with fail
              refine wp_region_quiet_below (by kernel_rfl) (by kernel_rfl) ?_
              repeat (first | go_big_quiet_step (fail) | quiet_step (fail))
              refine wpQuiet_nil ?_
              intro _ hw'
              obtain ⟨⟨dq, osq⟩, hw''⟩ := hw'
              subst hw''
              have hbr := below_regrown wr dq osq
              have hb5 := below_on hbq hbr
              replace hvq := s0 dq osq
              go_wp2_with fail
              all_goals try (exfalso; simp_all; done)
              exact ⟨⟨q + 1, by omega, rfl, by rw [hNew.out, hfm]; exact own_low hp hbr, hb5, by rw [ea.out]; exact hvq⟩, by show vn - ((q : Int) + 1).toNat < vn - (q : Int).toNat; omega⟩
            case false =>
              rw [hk] at hfm
              simp at hfm
              have hk2 : (Z.v.k != 0) = true := by simpa using hk
              go_wp2_with fail
              refine wp_region_quiet_below (by kernel_rfl) (by kernel_rfl) ?_
              repeat (first | go_big_quiet_step (fail) | quiet_step (fail))
              refine wpQuiet_nil ?_
              intro _ hw'
              obtain ⟨⟨dq, osq⟩, hw''⟩ := hw'
              subst hw''
              have hbr := below_regrown wr dq osq
              have hb5 := below_on hbq hbr
              replace hvq := s0 dq osq
              have o0 := (hbr.cell (World.block_lt_of_cell? _ _ n0)).trans n0
              have o1 := (hbr.cell (World.block_lt_of_cell? _ _ n1)).trans n1
              have o2 := (hbr.cell (World.block_lt_of_cell? _ _ n2)).trans n2
              have o3 := (hbr.cell (World.block_lt_of_cell? _ _ n3)).trans n3
              have o4 := (hbr.cell (World.block_lt_of_cell? _ _ n4)).trans n4
              have o5 := (hbr.cell (World.block_lt_of_cell? _ _ n5)).trans n5
              replace hp := own_low hp hbr
              clear e0 e1 e2 s0 n0 n1 n2 n3 n4 n5
              generalize grow (redrawn wr dq) osq = w3 at hb5 hvq o0 o1 o2 o3 o4 o5 hp ⊢
              obtain ⟨own0, hcl, fin2, hle⟩ := app_two hp hb5 (Nat.le_succ _) (World.block_lt_of_cell? _ _ hvq) Z
              have hvz := cell_keep (.cells (cellsV Z).toArray 102) hvq
              replace fin2 : Hid _ := fin2
              clear hp
              go_wp2_with (at_builtin; refine wpList_append_own_at _ rfl _ _ 42 rfl (w.heap.size + 1) 102 i0 _ 6 80 Tryd.underlying42 hi0 hz0 hz1 hz2 rfl (by decide) _ _ _ rfl own0 ⟨w3.heap.size, 0, none⟩ 1 1 (cellsV Z) rfl (by rfl) hcl (oneV _) (by unfold maxLen; omega) (by omega) hle ?_; intro v' w' hown hgrow hnil hat; have hvy := hgrow.cellK own0 hvz (fun k hk => by have := own_base own0 k hk; omega); obtain ⟨p', c', rfl, hown2, hb2⟩ := fin2.out v' w' hown hgrow; clear hown hgrow hnil hat)
              all_goals try (exfalso; simp_all; done)
              exact ⟨⟨q + 1, by omega, rfl, by rw [hNew.out, hfm]; simpa using hown2, hb2, by rw [ea.out]; exact hvy⟩, by show vn - ((q : Int) + 1).toNat < vn - (q : Int).toNat; omega⟩
        · have hqn : q = vn := by omega
          have ht : L.take q = L := by rw [hqn, ← hv]; simp
          generalize hSR : S ++ (L.take q).filter (isV (D.getD j default).n) = SR at hp ⊢
          rw [ht] at hSR
          go_wp2_with fail
          exact ⟨⟨j + 1, by omega, rfl, by rw [hmore.out, hSR]; exact hp, hbq, hvq⟩, by show n - ((j : Int) + 1).toNat < n - (j : Int).toNat; omega⟩
    · have hjn : j = n := by omega
      subst hjn
      have ht : D.take j = D := by rw [← hn]; simp
      go_wp2_with fail
      go_returns
      refine ⟨_, rfl, ?_, hb⟩
      show wr.ownsRow _ _ _ (Value.slice op (tldV (List.take j D) L).length oc) _ _
      rw [ht] at ho ⊢
      exact own_lower ho (Nat.le_succ _)
end Go.Proofs.YtmioohbailhppaaDoor
