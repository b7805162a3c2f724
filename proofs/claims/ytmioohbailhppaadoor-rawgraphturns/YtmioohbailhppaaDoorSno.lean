/-
  Nodes in order: sortNodes.
-/
import Derived.Test.YtmioohbailhppaaDoorSrn
import Derived.Deep.RegionWith
import Derived.Deep.DeepCutAuto
namespace Go.Proofs.YtmioohbailhppaaDoor
open Go.RowKit Go.Sort
set_option linter.unusedSimpArgs false
set_option linter.unusedVariables false

theorem PVsAt.only {w w' : World} {a : Option Addr} {L : List PV} {g : Nat} (h : PVsAt w a L) (hO : Only (fun k => k = g) w w') (hg : NB g a) (hz : ∀ x ∈ L, Bare x) : PVsAt w' a L := by
  rcases h with h | ⟨b, off, e, h⟩
  · exact .inl h
  · have hne : b ≠ g := by simpa using hg _ e
    refine .inr ⟨b, off, e, fun i hi => ?_⟩
    have k := h i hi
    have z := hz _ (getD_mem L i hi)
    have hb := hO.block b (World.block_lt_of_cell? w _ k.c0) hne
    exact ⟨(cell_of_block (a := ⟨b, _, none⟩) hb).trans k.c0, (cell_of_block (a := ⟨b, _, none⟩) hb).trans k.c1, (cell_of_block (a := ⟨b, _, none⟩) hb).trans k.c2, (cell_of_block (a := ⟨b, _, none⟩) hb).trans k.c3, (cell_of_block (a := ⟨b, _, none⟩) hb).trans k.c4, (cell_of_block (a := ⟨b, _, none⟩) hb).trans k.c5, k.nz, k.sz, k.ln, .inl z.z⟩
theorem sortProps_any (a : Option Addr) (n c : Nat) (D : List PD) (va : Option Addr) (vn vc : Nat) (L : List PV) (w : World) (hn : D.length = n) (hm : n ≤ 32) (hD : PDsAt w a D) (hv : L.length = vn) (hvm : vn ≤ maxLen) (hL : PVsAt w va L) :
    Calls Tryd.prog 52 #[.slice a n c, .slice va vn vc] w fun e w' => ∃ p c', e = .returned (.slice p (srtV D L).length c') ∧ PVsAt w' p (srtV D L) ∧ (srtV D L).length ≤ c' ∧ c' ≤ maxLen ∧ (∀ ad, p = some ad → w.heap.size ≤ ad.block) ∧ Below w.heap.size w w' := by
  have hz := srtV_bare D L hL.sz
  refine (sortProps_own a n c D va vn vc L w hn hm hD hv hvm hL).mono ?_
  rintro e w' ⟨u, rfl, ho, hb⟩
  rcases own_row (cs := cellsV) (fun _ => rfl) rfl ho with ⟨rfl, h0, h1⟩ | ⟨g, cap, rfl, h1, h2, h3, h4, h5⟩
  · exact ⟨none, 0, by rw [h0], .inl h1, by omega, Nat.zero_le _, by simp, hb⟩
  · exact ⟨some ⟨g, 0, none⟩, cap, rfl, PVsAt.of_rows h5 hz, h3, h4, fun ad e => by cases e; exact h1, hb⟩

/-- A record in order. -/
structure NDcp (w : World) (b g : Nat) (T : List TD) (x y : ND) : Prop where
  id : y.id = x.id
  lab : y.lab = x.lab
  ps : y.ps = srtV (declOf T x.lab) x.ps
  l : y.l = y.ps.length
  lc : y.l ≤ y.c
  lm : y.c ≤ maxLen
  at_ : PVsAt w y.p y.ps
  bare : ∀ v ∈ y.ps, Bare v
  nb : NB g y.p
  hi : HB b y.p
theorem NDcp.below {w w' : World} {b g : Nat} {T : List TD} {x y : ND} (h : NDcp w b g T x y) (hb : Below w.heap.size w w') : NDcp w' b g T x y := { h with at_ := h.at_.below hb }
theorem NDcp.only {w w' : World} {b g : Nat} {T : List TD} {x y : ND} (h : NDcp w b g T x y) (hO : Only (fun k => k = g) w w') : NDcp w' b g T x y := { h with at_ := h.at_.only hO h.nb h.bare }
structure SN (T : List TD) (w wr : World) (g : Nat) (L M : List ND) (j : Nat) : Prop where
  bel : Below w.heap.size w wr
  or_ : OR wr g 3 cellsN M
  len : M.length = L.length
  lo : w.heap.size ≤ g
  lt : g < wr.heap.size
  old : ∀ k, k < L.length → j ≤ k → M.getD k default = L.getD k default
  new : ∀ k, k < j → k < L.length → NDcp wr w.heap.size g T (L.getD k default) (M.getD k default)
theorem SN.below {T : List TD} {w wr w' : World} {g : Nat} {L M : List ND} {j : Nat} (h : SN T w wr g L M j) (hb : Below wr.heap.size wr w') : SN T w w' g L M j :=
  { h with bel := below_on h.bel hb, or_ := h.or_.below h.lt hb, lt := Nat.lt_of_lt_of_le h.lt hb.size, new := fun k hk hl => (h.new k hk hl).below hb }
theorem SN.put {T : List TD} {w wr : World} {g : Nat} {L M : List ND} {j : Nat} (h : SN T w wr g L M j) (hj : j < L.length) (D : List PD) (hD : declOf T (L.getD j default).lab = D) (p : Option Addr) (c : Nat) (hp : PVsAt wr p (srtV D (L.getD j default).ps)) (hz : ∀ v ∈ srtV D (L.getD j default).ps, Bare v) (hg : NB g p) (hh : HB w.heap.size p) (hlc : (srtV D (L.getD j default).ps).length ≤ c) (hc : c ≤ maxLen) :
    SN T w (wr.setCell ⟨g, j * 3 + 2, none⟩ (.slice p (srtV D (L.getD j default).ps).length c)) g L (M.set j { L.getD j default with p := p, l := (srtV D (L.getD j default).ps).length, c := c, ps := srtV D (L.getD j default).ps }) (j + 1) := by
  subst hD
  have hO : Only (fun k => k = g) wr (wr.setCell ⟨g, j * 3 + 2, none⟩ (.slice p (srtV (declOf T (L.getD j default).lab) (L.getD j default).ps).length c)) := (Only.refl (fun k => k = g) wr).setCell (p := ⟨g, j * 3 + 2, none⟩) (fun _ => rfl) _
  have hjM : j < M.length := by rw [h.len]; exact hj
  have hx := h.old j hj (Nat.le_refl _)
  have hlo := h.lo
  refine ⟨h.bel.trans (hO.below h.bel.size (fun k hk => by omega)), h.or_.set (fun _ => rfl) hjM (by decide) _ _ rfl (fun q hq hne => ?_), by rw [List.length_set]; exact h.len, h.lo, by simpa using h.lt, fun k hk hjk => ?_, fun k hk hl => ?_⟩
  · rw [hx]
    have : q = 0 ∨ q = 1 := by omega
    rcases this with rfl | rfl <;> rfl
  · rw [getD_set_ne _ _ _ (by omega)]
    exact h.old k hk (by omega)
  · by_cases e : k = j
    · subst e
      rw [getD_set_same _ _ hjM]
      exact ⟨rfl, rfl, rfl, rfl, hlc, hc, hp.only hO hg hz, hz, hg, hh⟩
    · rw [getD_set_ne _ _ _ (fun e' => e e'.symm)]
      exact (h.new k (by omega) hl).only hO
/-- What is said of a record, wherever it lies. -/
def cN (x : ND) : Int × ByteArray × (List PV) := (x.id, x.lab, x.ps)
def sN (T : List TD) (x : ND) : Int × ByteArray × (List PV) := (x.id, x.lab, srtV (declOf T x.lab) x.ps)
theorem map_two {α β γ : Type} [Inhabited α] [Inhabited β] (f : α → γ) (h : β → γ) : ∀ (L : List β) (M : List α), M.length = L.length → (∀ k, k < L.length → f (M.getD k default) = h (L.getD k default)) → M.map f = L.map h
  | [], [], _, _ => rfl
  | [], _ :: _, h, _ => by simp at h
  | _ :: _, [], h, _ => by simp at h
  | x :: L, y :: M, hh, hk => by
    have h0 : f y = h x := by simpa using hk 0 (by simp)
    rw [List.map_cons, List.map_cons, h0, map_two f h L M (by simpa using hh) (fun k hk' => by simpa using hk (k + 1) (by simpa using hk'))]
theorem NDsAt.of_rows {w : World} {g : Nat} {M : List ND} (h : OR w g 3 cellsN M) (hk : ∀ i, i < M.length → NDok w (M.getD i default)) : NDsAt w (some ⟨g, 0, none⟩) M := by
  refine .inr ⟨g, 0, rfl, fun i hi => ?_⟩
  have c := h.cell i hi
  have k := hk i hi
  exact ⟨by rw [Nat.zero_add]; exact c 0 (by decide), by rw [Nat.zero_add]; exact c 1 (by decide), by rw [Nat.zero_add]; exact c 2 (by decide), k.iz,  k.sz, k.ln, k.lm, k.ps⟩
/-- Records in order, in memory of their own. -/
def ON (w : World) (b : Nat) (T : List TD) (L : List ND) (n : Nat) (p : Option Addr) (c : Nat) : Prop := ∃ M S : List ND, NDsAt w p M ∧ M.length = n ∧ S.Perm L ∧ S.Pairwise (fun x y => x.id ≤ y.id) ∧ M.map cN = S.map (sN T) ∧ (∀ x ∈ M, ∀ v ∈ x.ps, Bare v) ∧ n ≤ c ∧ c ≤ maxLen ∧ (p = none → M = [] ∧ c = 0) ∧ HB b p ∧ ∀ x ∈ M, HB b x.p
theorem ON.below {w w' : World} {b : Nat} {T : List TD} {L : List ND} {n : Nat} {p : Option Addr} {c : Nat} (h : ON w b T L n p c) (hb : Below w.heap.size w w') : ON w' b T L n p c := by
  obtain ⟨M, S, h1, h2⟩ := h
  exact ⟨M, S, h1.below hb, h2⟩
theorem ON.only {w w' : World} {b g : Nat} {T : List TD} {L : List ND} {n : Nat} {p : Option Addr} {c : Nat} (h : ON w b T L n p c) (hO : Only (fun k => k = g) w w') (hg : g < b) : ON w' b T L n p c := by
  obtain ⟨M, S, h1, h2, h3, h4, h5, h6, h7, h8, h9, h10, h11⟩ := h
  refine ⟨M, S, ?_, h2, h3, h4, h5, h6, h7, h8, h9, h10, h11⟩
  rcases h1 with h1 | ⟨q, off, e, h1⟩
  · exact .inl h1
  · have hne : q ≠ g := by simpa using h10.nb hg _ e
    refine .inr ⟨q, off, e, fun i hi => ?_⟩
    have k := h1 i hi
    have hb := hO.block q (World.block_lt_of_cell? w _ k.c0) hne
    have hm := getD_in M i hi
    exact { k with
      c0 := (cell_of_block (a := ⟨q, _, none⟩) hb).trans k.c0
      c1 := (cell_of_block (a := ⟨q, _, none⟩) hb).trans k.c1
      c2 := (cell_of_block (a := ⟨q, _, none⟩) hb).trans k.c2
      ps := k.ps.only hO ((h11 _ hm).nb hg) (h6 _ hm) }

set_option maxRecDepth 100000 in
set_option maxHeartbeats 4000000 in
theorem sortNodes_any (a1 : Option Addr) (n1 c1 : Nat) (T : List TD) (a : Option Addr) (n c : Nat) (L : List ND) (w : World) (l1 : T.length = n1) (m1 : n1 ≤ maxLen) (h1 : TDsAt w a1 T) (hF : Few T) (hn : L.length = n) (hL : NDsAt w a L) (hX : n * 48 ≤ 140737488355328) (hlab : ∀ x ∈ L, 0 ≤ labAt T x.lab) :
    Calls Tryd.prog 29 #[.slice a1 n1 c1, .slice a n c] w fun e w' => ∃ (p : Option Addr) (c' : Nat), e = .returned (.slice p n c') ∧ ON w' w.heap.size T L n p c' ∧ Below w.heap.size w w' := by
  subst hn
  have hC := cloneN a L.length c L w rfl hL hX
  have hok := hL.oks
  have hTk := h1.oks
  have hDe := fun w' (hb : Below w.heap.size w w') s u hu => declaredBy_any a1 n1 c1 T s w' l1 m1 (h1.below hb) u hu
  have hPr := fun (t : TD) (ht : TDok w t) (hl : t.ps.length ≤ 32) (x : ND) (hx : NDok w x) w' (hb : Below w.heap.size w w') => sortProps_any t.p t.l t.c t.ps x.p x.l x.c x.ps w' ht.ln (by have := ht.ln; omega) (ht.ps.below hb) hx.ln hx.lm (hx.ps.below hb)
  replace hC : Hid _ := hC
  replace hDe : Hid _ := hDe
  replace hPr : Hid _ := hPr
  clear hL
  go_enter Tryd.func29, Tryd.ntmps29
  go_upto_region 2 with (go_at_call 48; refine Calls.mono hC.out ?_; rintro e w1 ⟨u, rfl, ho, hb1⟩)
  rcases own_row (cs := cellsN) (fun _ => rfl) rfl ho with ⟨rfl, h0, hL0⟩ | ⟨g, cap, rfl, g1, g2, g3, g4, g5⟩
  · clear ho
    subst hL0
    have hs := sortN_nil w1
    replace hs : Hid _ := hs
    go_wp2_with (go_at_call 49; refine Calls.mono hs.out ?_; rintro e w2 ⟨rfl, rfl⟩)
    go_loopw [14] (fun i wr => Below w.heap.size w wr ∧ i = .int .i64 0) (fun i _ => 0)
    case atStart => exact ⟨hb1, rfl⟩
    case round =>
      obtain ⟨hb, rfl⟩ := hrel
      go_wp2_with fail
      go_returns
      exact ⟨none, 0, rfl, ⟨[], [], .inl rfl, rfl, List.Perm.refl _, List.Pairwise.nil, rfl, by simp, Nat.le_refl _, Nat.zero_le _, fun _ => ⟨rfl, rfl⟩, by simp [HB], by simp⟩, hb⟩
  · clear ho
    have hs := sortN g cap L w1 g5 g2 (by omega)
    replace hs : Hid _ := hs
    unfold maxLen at g4
    go_upto_region 3 with (go_at_call 49; refine Calls.mono hs.out ?_; rintro e w2 ⟨rfl, S, sp, sq, sO, so⟩)
    have hlen : S.length = L.length := sp.length_eq
    have hb2 : Below w.heap.size w w2 := hb1.trans (so.below hb1.size (fun k hk => by omega))
    have g2' : g < w2.heap.size := Nat.lt_of_lt_of_le g2 so.size
    have hokS : ∀ i, i < S.length → NDok w (S.getD i default) ∧ 0 ≤ labAt T (S.getD i default).lab := fun i hi => by
      have hm := sp.mem_iff.1 (getD_mem S i hi)
      obtain ⟨k, hk, e⟩ := List.mem_iff_getElem.1 hm
      have hk2 := hok k hk
      rw [show L.getD k default = S.getD i default by rw [← e]; simp [List.getD, List.getElem?_eq_getElem hk]] at hk2
      exact ⟨hk2, hlab _ hm⟩
    clear so hs hok hlab
    go_wp2_with fail
    go_loopw [14] (fun i wr => ∃ (j : Nat) (M : List ND), j ≤ L.length ∧ i = .int .i64 j ∧ SN T w wr g S M j) (fun i _ => L.length - (intOf i).toNat)
    case atStart => exact ⟨0, S, by omega, rfl, hb2, sO, rfl, g1, g2', fun _ _ _ => rfl, fun k hk => by omega⟩
    case round =>
      obtain ⟨j, M, j1, rfl, hct⟩ := hrel
      by_cases hj : j < L.length
      · have hjS : j < S.length := by omega
        obtain ⟨hx, hlb⟩ := hokS j hjS
        have hput := fun w' (hb : Below _ _ w') => (hct.below hb).put hjS
        have hcell := hct.or_.cell j (by rw [hct.len]; omega)
        rw [hct.old j hjS (Nat.le_refl _)] at hcell
        have hf1 := hct.or_.fr (j * 3 + 2)
        have hbel := hct.bel
        have hlt := hct.lt
        clear hct
        generalize S.getD j default = X at hx hlb hput hcell
        have k0 : wr.cell? ⟨g, j * 3, none⟩ = some (Value.int .i64 X.id) := hcell 0 (by decide)
        have k1 : wr.cell? ⟨g, j * 3 + 1, none⟩ = some (Value.string X.lab) := hcell 1 (by decide)
        have k2 : wr.cell? ⟨g, j * 3 + 2, none⟩ = some (Value.slice X.p X.l X.c) := hcell 2 (by decide)
        clear hcell
        obtain ⟨u, hu⟩ : ∃ u : Nat, labAt T X.lab = u := ⟨(labAt T X.lab).toNat, by omega⟩
        have hul := firstAt_lo (fun x : TD => decide (x.n = X.lab)) T
        have hu' : firstAt (fun x : TD => decide (x.n = X.lab)) T = (u : Int) := hu
        rw [hu'] at hul
        have hTu := hTk u (by omega)
        have hFu := hF u (by omega)
        have hdecl : declOf T X.lab = (T.getD u default).ps := by unfold declOf; rw [hu, Int.toNat_natCast]
        have hD1 := fun w' hb => hDe.out w' hb X.lab u hu'
        generalize T.getD u default = Y at hTu hFu hdecl hD1
        have hP1 := fun w' hb => hPr.out Y hTu hFu X hx w' hb
        have hzz := srtV_bare Y.ps X.ps hx.ps.sz
        have fin := fun w' hb p c' q1 q2 q3 q4 q5 => hput w' hb Y.ps hdecl p c' q1 hzz q4 q5 q2 q3
        replace fin : Hid _ := fin
        generalize (srtV Y.ps X.ps).length = N at hP1 fin
        generalize srtV Y.ps X.ps = Z at hP1 fin
        replace hD1 : Hid _ := hD1
        replace hP1 : Hid _ := hP1
        clear hput hdecl hu hu' hul hTu hFu hlb hDe hPr
        go_upto_region 6 with fail
        have hbn := below_new wr (.cells #[.int .i64 X.id, .string X.lab, .slice X.p X.l X.c] 44)
        have r1 : (wr.alloc (.cells #[.int .i64 X.id, .string X.lab, .slice X.p X.l X.c] 44)).cell? ⟨wr.heap.size, 1, none⟩ = some (.string X.lab) := by simp only [World.cell?, heap_alloc_new]; simp
        have r2 : (wr.alloc (.cells #[.int .i64 X.id, .string X.lab, .slice X.p X.l X.c] 44)).cell? ⟨wr.heap.size, 2, none⟩ = some (.slice X.p X.l X.c) := by simp only [World.cell?, heap_alloc_new]; simp
        replace hf1 := (hbn.frozen (p := ⟨g, j * 3 + 2, none⟩) hlt).trans hf1
        replace k2 := (hbn.cell (World.block_lt_of_cell? _ _ k2)).trans k2
        clear k0 k1
        replace hlt := Nat.lt_of_lt_of_le hlt hbn.size
        have hbw := below_on hbel hbn
        generalize wr.heap.size = B at r1 r2 ⊢
        generalize hW : wr.alloc (.cells #[.int .i64 X.id, .string X.lab, .slice X.p X.l X.c] 44) = W at r1 r2 hf1 k2 hlt hbn hbw ⊢
        replace hW : Hid _ := hW
        have hcur : Below W.heap.size W W.drew := (Below.refl _ _).drew
        go_region_with (first
          | (go_at_call 41; refine Calls.mono (hD1.out _ (below_on hbw hcur)) ?_; rintro e wA ⟨rfl, hbA⟩; replace hcur := below_on hcur hbA; replace r1 := (hbA.cell (World.block_lt_of_cell? _ _ r1)).trans r1; replace r2 := (hbA.cell (World.block_lt_of_cell? _ _ r2)).trans r2; replace k2 := (hbA.cell (World.block_lt_of_cell? _ _ k2)).trans k2; replace hf1 := (hbA.frozen (p := ⟨g, j * 3 + 2, none⟩) hlt).trans hf1; replace hlt := Nat.lt_of_lt_of_le hlt hbA.size)
          | (go_at_call 52; refine Calls.mono (hP1.out _ (below_on hbw hcur)) ?_; rintro e wB ⟨p', c', rfl, q1, q2, q3, q4, hbB⟩; replace hcur := below_on hcur hbB; replace k2 := (hbB.cell (World.block_lt_of_cell? _ _ k2)).trans k2; replace hf1 := (hbB.frozen (p := ⟨g, j * 3 + 2, none⟩) hlt).trans hf1))
        all_goals go_wp2_with fail
        all_goals exact ⟨⟨j + 1, _, by omega, rfl, fin.out wB (below_on hbn hcur) p' c' q1 q2 q3 (fun ad e => by have := q4 ad e; omega) (fun ad e => Nat.le_trans g1 (Nat.le_trans (Nat.le_of_lt hlt) (q4 ad e)))⟩, by show L.length - ((j : Int) + 1).toNat < L.length - (j : Int).toNat; omega⟩
      · have hjn : j = L.length := by omega
        subst hjn
        go_wp2_with fail
        go_returns
        have hoM : ∀ i, i < M.length → NDok wr (M.getD i default) := fun i hi => by
          rw [hct.len] at hi
          have k := hct.new i (by omega) hi
          have x := (hokS i hi).1
          exact ⟨by rw [k.id]; exact x.iz,  by rw [k.lab]; exact x.sz, k.l.symm, Nat.le_trans k.lc k.lm, k.at_⟩
        exact ⟨some ⟨g, 0, none⟩, cap, rfl, ⟨M, S, NDsAt.of_rows hct.or_ hoM, by rw [hct.len, hlen], sp, sq, map_two cN (sN T) S M hct.len (fun k hk => by have := hct.new k (by omega) hk; simp only [cN, sN]; rw [this.id, this.lab,  this.ps]), fun x hx v hv => by
          obtain ⟨i, hi, e⟩ := List.mem_iff_getElem.1 hx
          have hi2 : i < S.length := by rw [← hct.len]; exact hi
          have k := (hct.new i (by omega) hi2).bare
          rw [show M.getD i default = x by rw [← e]; simp [List.getD, List.getElem?_eq_getElem hi]] at k
          exact k v hv, g3, by unfold maxLen; omega, by simp, fun ad e => by cases e; exact g1, fun x hx => by
          obtain ⟨i, hi, e⟩ := List.mem_iff_getElem.1 hx
          have hi2 : i < S.length := by rw [← hct.len]; exact hi
          have k := (hct.new i (by omega) hi2).hi
          rw [show M.getD i default = x by rw [← e]; simp [List.getD, List.getElem?_eq_getElem hi]] at k
          exact k⟩, hct.bel⟩
end Go.Proofs.YtmioohbailhppaaDoor
