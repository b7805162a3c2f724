/-
  Patterns: the walk.
-/
import Derived.Test.YtefenbonjepjgaaGreatDoorPau
namespace Go.Proofs.YtefenbonjepjgaaGreatDoor
open Go.ChangeShapes Go.WideShapes Go.ChangeAt Go.RowKit
set_option linter.unusedSimpArgs false
set_option linter.unusedVariables false

theorem pattG_stop {E : Nat} {q : Pt} {L : List Tk} (k : Nat) (h : (isW [45] L || isW [60] L) = false) : pattG E k q L = .ok q L := by
  cases k with
  | zero => rfl
  | succ k => unfold pattG; rw [h]; rfl
theorem then_bad {α β : Type} (a : Nat) (y : Int) (f : α → List Tk → Res β) : (Res.bad a y).then f = .bad a y := rfl
theorem must_ok {E : Nat} {s : List UInt8} {L M : List Tk} {u : Unit} (h : mustL E s L = .ok u M) : isW s L = true ∧ M = L.tail := by
  unfold mustL at h
  by_cases hc : isW s L = true
  · rw [if_pos hc] at h
    cases h
    exact ⟨hc, rfl⟩
  · rw [if_neg hc] at h
    cases h
/-- An edge takes a word at least. -/
theorem edge_less {E : Nat} {M M2 : List Tk} {x : Ed} (hw : (isW [45] M || isW [60] M) = true) (h : edgeP E M = .ok x M2) : M2.length < M.length := by
  unfold edgeP at h
  obtain ⟨_, L1, h1, h2⟩ := then_ok.1 h
  obtain ⟨x2, L2, h3, h4⟩ := then_ok.1 h2
  obtain ⟨_, L3, h5, h6⟩ := then_ok.1 h4
  have g1 : L1.length < M.length := by
    unfold mustsL at h1
    obtain ⟨_, L0, e1, e2⟩ := then_ok.1 h1
    have g2 := shr_musts E _ L0 _ _ e2
    obtain ⟨hc, e3⟩ := must_ok e1
    obtain ⟨t, N, e⟩ := isW_cons hc
    have h9 : (if isW [60] M then M.tail else M).length ≤ M.length := by split <;> simp
    rw [e3, e] at g2
    rw [e] at h9
    simp at g2 h9
    omega
  have g3 := shr_body E L1 _ _ h3
  have g4 := shr_musts E _ L2 _ _ h5
  have g5 : M2.length ≤ L3.length := by
    split at h6
    · cases h6; exact Nat.le_refl _
    · obtain ⟨_, L4, e1, e2⟩ := then_ok.1 h6
      cases e2
      exact shr_must E _ L3 _ _ e1
  omega
theorem PS.start {w w1 : World} {B E d : Nat} {y : Nd} {M : List Tk} (hB : B < w.heap.size) (ho : Only (· = B) (w.alloc (.cells #[.slice none 0 0, .slice none 0 0] 61)) w1) (hr : Rd w1 B E d M) :
    PS w ((w1.alloc (.cells #[.string (txt y.v), .string (txt y.l)] 66)).alloc (.cells #[.slice (some ⟨w1.heap.size, 0, none⟩) 1 1, .slice none 0 0] 61)) B E d (w1.heap.size + 1) ⟨[y], []⟩ M (.slice (some ⟨w1.heap.size, 0, none⟩) 1 1) (.slice none 0 0) [([.string (txt y.v), .string (txt y.l)] : List Value)] [] := by
  have hb1 := below_new w1 (.cells #[.string (txt y.v), .string (txt y.l)] 66)
  have hb2 := below_new (w1.alloc (.cells #[.string (txt y.v), .string (txt y.l)] 66)) (.cells #[.slice (some ⟨w1.heap.size, 0, none⟩) 1 1, .slice none 0 0] 61)
  have hs : w.heap.size + 1 ≤ w1.heap.size := by have := ho.size; simpa using this
  have hz : (w1.alloc (.cells #[.string (txt y.v), .string (txt y.l)] 66)).heap.size = w1.heap.size + 1 := by simp
  have c0 := alloc_cell (i := 0) (t := 61) (cs := #[.slice (some ⟨w1.heap.size, 0, none⟩) 1 1, .slice none 0 0]) (w1.alloc (.cells #[.string (txt y.v), .string (txt y.l)] 66)) rfl
  have c1 := alloc_cell (i := 1) (t := 61) (cs := #[.slice (some ⟨w1.heap.size, 0, none⟩) 1 1, .slice none 0 0]) (w1.alloc (.cells #[.string (txt y.v), .string (txt y.l)] 66)) rfl
  have cf := fun i => alloc_fr (w1.alloc (.cells #[.string (txt y.v), .string (txt y.l)] 66)) #[.slice (some ⟨w1.heap.size, 0, none⟩) 1 1, .slice none 0 0] 61 i
  rw [hz] at c0 c1 cf
  have ho1 : (w1.alloc (.cells #[.string (txt y.v), .string (txt y.l)] 66)).ownsRow (w.heap.size + 1) 66 2 (.slice (some ⟨w1.heap.size, 0, none⟩) 1 1) 1 [.string (txt y.v), .string (txt y.l)] := World.ownsRow_lit w1 #[.string (txt y.v), .string (txt y.l)] 1 hs (by decide) rfl
  refine ⟨ho.trans (only_of_below (below_on hb1 hb2)), hr.below (below_on hb1 hb2), ⟨c0, c1, cf⟩, ⟨own_below ho1 hb2, rfl, trivial⟩, ⟨own_nil _ _ _ _, trivial⟩, ?_, ?_, ?_, by simp⟩
  · intro e; simp [Value.ownBlock] at e
  · intro e; cases e
  · intro g _ e; cases e
set_option maxRecDepth 100000 in
set_option maxHeartbeats 2000000 in
theorem patt_any {B E d : Nat} {w : World} {L : List Tk} (h : Rd w B E d L) : Calls Tryz.prog 34 #[rp B] w (Ans w B E d (pattP E L) (IsPt w.heap.size)) := by
  have hlt := h.lt
  have hfew := h.few
  have h0 := h.below (below_new w (.cells #[.slice none 0 0, .slice none 0 0] 61))
  have hZ := only_of_below (B := B) (below_new w (.cells #[.slice none 0 0, .slice none 0 0] 61))
  have hN := fun (_ : Unit) => node_any h0
  have hsh := shr_node E L
  obtain ⟨i0, hi0, hz0, hz1, hz2⟩ := info_parts info66
  obtain ⟨j0, hj0, hy0, hy1, hy2⟩ := info_parts info64
  replace hi0 : Hid _ := hi0
  replace hz0 : Hid _ := hz0
  replace hz1 : Hid _ := hz1
  replace hz2 : Hid _ := hz2
  replace hj0 : Hid _ := hj0
  replace hy0 : Hid _ := hy0
  replace hy1 : Hid _ := hy1
  replace hy2 : Hid _ := hy2
  clear h h0
  generalize hF : pattP E L = F
  unfold pattP at hF
  cases hX : nodeP E L with
  | bad a y =>
    rw [hX] at hF hN
    have hF2 : Res.bad a y = F := hF
    subst hF2
    clear hF
    replace hN : Hid _ := hN
    replace hX : Hid _ := hX
    go_enter Tryz.func34, Tryz.ntmps34
    go_wp2_with (have hh := hN.out (); go_at_call 63; (with_reducible refine Calls.mono hh ?_); clear hh; rintro e w1 ⟨ho1, rfl⟩)
    exact end_bad rfl (hZ.trans ho1)
  | ok y M =>
    rw [hX] at hF hN
    have hF2 : pattG E M.length ⟨[y], []⟩ M = F := hF
    have hML := hsh y M hX
    clear hF hsh
    replace hN : Hid _ := hN
    replace hX : Hid _ := hX
    replace hF2 : Hid _ := hF2
    go_enter Tryz.func34, Tryz.ntmps34
    go_wp2_with (have hh := hN.out (); go_at_call 63; (with_reducible refine Calls.mono hh ?_); clear hh; rintro e w1 ⟨ho1, _, rfl, rfl, hr1⟩)
    have hps := PS.start (y := y) hlt ho1 hr1
    have hXr : w.heap.size < w1.heap.size + 1 := by have := ho1.size; simp at this; omega
    clear ho1 hr1 hN hX
    generalize (w1.alloc (.cells #[.string (txt y.v), .string (txt y.l)] 66)).alloc (.cells #[.slice (some ⟨w1.heap.size, 0, none⟩) 1 1, .slice none 0 0] 61) = W1 at *
    generalize w1.heap.size + 1 = X at *
    replace hps : Hid _ := hps
    go_loopg [] (M.length) (fun k wr => ∃ (q : Pt) (M : List Tk) (p1 p2 : Option Addr) (c1 c2 : Nat) (C1 C2' : List (List Value)), PS w wr B E d X q M (.slice p1 q.nodes.length c1) (.slice p2 q.edges.length c2) C1 C2' ∧
      M.length ≤ k ∧ M.length ≤ L.length ∧ q.nodes.length + M.length ≤ L.length + 1 ∧ q.edges.length + M.length ≤ L.length + 1 ∧ pattG E k q M = F)
    case atStart => exact ⟨⟨[y], []⟩, M, _, _, _, _, _, _, hps.out, Nat.le_refl _, hML, by simp; omega, by simp; omega, hF2.out⟩
    case round =>
      clear hps hML hF2
      obtain ⟨q, M, p1, p2, c1, c2, C1, C2', hps, hMk, hML, hcn, hce, hF⟩ := hrel
      have hI := fun g hg => isNext2 hps.rd [45] [60] wr g (Below.refl _ _) hg
      have hlr := hps.rd.lt
      cases hw : (isW [45] M || isW [60] M)
      · rw [hw] at hI
        rw [pattG_stop _ hw] at hF
        subst hF
        replace hI : Hid _ := hI
        replace hps : Hid _ := hps
        replace hw : Hid _ := hw
        go_upto_region 5 with (go_at_call 38; refine Calls.mono (hI.out _ (by simp)) ?_; rintro e w2 ⟨rfl, hb2⟩)
        have hp2 := hps.out.below hlt hXr hb2
        obtain ⟨x0, x1, xf⟩ := hp2.cel
        obtain ⟨yf, yl, yn, y0, y1⟩ := new61 hp2.only hlt
        clear hb2 hps
        replace hp2 : Hid _ := hp2
        go_wp2_with fail
        refine ret61 (V := IsPt w.heap.size) (x := q) (.inl rfl) Tryz.results34 rfl rfl hp2.out.only hlt hp2.out.rd ?_
        intro W5 ho5
        exact hp2.out.done ho5
      · rw [hw] at hI
        obtain ⟨k', hk'⟩ : ∃ k', gk = k' + 1 := ⟨gk - 1, by
          have : M ≠ [] := fun e => by rw [e] at hw; cases hw
          have := List.length_pos_iff.2 this
          omega⟩
        rw [hk'] at hF
        have hF2 : ((edgeP E M).then fun x L => (nodeP E L).then fun y L => pattG E k' ⟨q.nodes ++ [y], q.edges ++ [x]⟩ L) = F := by rw [← hF, pattG, hw]; rfl
        clear hF
        replace hI : Hid _ := hI
        replace hps : Hid _ := hps
        replace hw : Hid _ := hw
        go_upto_region 3 with (go_at_call 38; refine Calls.mono (hI.out _ (by simp)) ?_; rintro e w2 ⟨rfl, hb2⟩)
        have hp2 := hps.out.below hlt hXr hb2
        clear hb2 hps hI
        have hE := fun W (hr : Rd W B E d M) => edge_any hr
        cases hY : edgeP E M with
        | bad a y2 =>
          rw [hY] at hE hF2
          have hF3 : Res.bad a y2 = F := hF2
          subst hF3
          clear hF2 hY
          replace hE : Hid _ := hE
          have hq3 := fun (_ : Unit) => hE.out _ (hp2.rd.below (Below.drew (Below.refl w2.heap.size w2)))
          have hfin : ∀ act w5, act.defers = [] → Only (· = B) w2.drew w5 → bodyPost Tryz.prog Tryz.f34 (Ans w B E d (.bad a y2) (IsPt w.heap.size)) (.panic [{ v := .iface 91 (refV a y2), recovered := false }]) act w5 := fun act w5 hd ho5 =>
            end_bad hd (hZ.trans (hp2.only.trans ((only_of_below (B := B) (Below.drew (Below.refl w2.heap.size w2))).trans ho5)))
          obtain ⟨x0, x1, xf⟩ := hp2.cel
          clear hp2
          replace hq3 : Hid _ := hq3
          replace hfin : Hid _ := hfin
          refine wp_region_any (by kernel_rfl) ?_
          change wpAny _ _ _ _ _ _ _ (World.drew _)
          refine wpAny_take (i := 0) (v := .pointer (some ⟨X, 1, none⟩)) rfl (by kernel_rfl) (by kernel_rfl) (by kernel_rfl) (fun _ _ _ h => h) (Or.inl ⟨by rfl, by intro w; go_simp⟩) ?_
          refine wpAny_take (i := 2) (v := rp B) rfl (by kernel_rfl) (by kernel_rfl) (by kernel_rfl) (fun _ _ _ h => h) (Or.inl ⟨by rfl, by intro w; go_simp⟩) ?_
          refine wpAny_ready (rs := [1, 3]) (by kernel_rfl) (by simp) ?_
          refine AllReady.cons rfl (fun K hK => ?_) ?_
          · go_simp
            (refine hK _ _ ?_; clear hK K)
            refine wpAny_ready (rs := [3]) (by kernel_rfl) (by simp) ?_
            refine AllReady.cons rfl (fun K hK => ?_) AllReady.nil
            go_simp
            have hh := hq3.out ()
            (with_reducible refine Calls.mono hh ?_)
            rintro e w5 ⟨ho5, rfl⟩
            exact hfin.out _ _ rfl ho5
          · refine AllReady.cons rfl (fun K hK => ?_) AllReady.nil
            go_simp
            have hh := hq3.out ()
            (with_reducible refine Calls.mono hh ?_)
            rintro e w5 ⟨ho5, rfl⟩
            exact hfin.out _ _ rfl ho5
        | ok x M2 =>
          rw [hY] at hE hF2
          have hF3 : ((nodeP E M2).then fun y L => pattG E k' ⟨q.nodes ++ [y], q.edges ++ [x]⟩ L) = F := hF2
          have hs2 := shr_edge E M x M2 hY
          clear hF2
          replace hE : Hid _ := hE
          replace hY : Hid _ := hY
          obtain ⟨x0, x1, xf⟩ := hp2.cel
          have hlt2 : M2.length < M.length := edge_less hw hY
          clear x0
          replace hp2 : Hid _ := hp2
          go_cut [12, 14, 15, 16] from 8 to 24 (fun v12 v14 v15 v16 wc => ∃ p5 c5, PS w wc B E d X ⟨q.nodes, q.edges ++ [x]⟩ M2 (.slice p1 q.nodes.length c1) (.slice p5 (q.edges.length + 1) c5) C1 (C2' ++ [([.string (txt x.v), .string (txt x.l), .bool x.back, .int .i64 x.mode, .int .i64 x.lo, .int .i64 x.hi] : List Value)]))
          case first =>
            refine wp_region_any (by kernel_rfl) ?_
            change wpAny _ _ _ _ _ _ _ (World.drew _)
            refine wpAny_take (i := 0) (v := .pointer (some ⟨X, 1, none⟩)) rfl (by kernel_rfl) (by kernel_rfl) (by kernel_rfl) (fun _ _ _ h => h) (Or.inl ⟨by rfl, by intro w; go_simp⟩) ?_
            refine wpAny_take (i := 2) (v := rp B) rfl (by kernel_rfl) (by kernel_rfl) (by kernel_rfl) (fun _ _ _ h => h) (Or.inl ⟨by rfl, by intro w; go_simp⟩) ?_
            refine wpAny_ready (rs := [1, 3]) (by kernel_rfl) (by simp) ?_
            refine AllReady.cons rfl (fun K hK => ?_) ?_
            · go_simp
              (refine hK _ _ ?_; clear hK K)
              refine wpAny_ready (rs := [3]) (by kernel_rfl) (by simp) ?_
              refine AllReady.cons rfl (fun K hK => ?_) AllReady.nil
              go_simp
              have hh := hE.out _ (hp2.out.rd.below (Below.drew (Below.refl w2.heap.size w2)))
              (with_reducible refine Calls.mono hh ?_)
              clear hh
              rintro e w3 ⟨ho3, _, rfl, rfl, hr3⟩
              have hoK := (only_of_below (B := B) (Below.drew (Below.refl w2.heap.size w2))).trans ho3
              clear ho3
              have hp3 := hp2.out.on hlt hXr hoK hr3
              have l3 := hp3.cel.c1
              have f3 := hp3.cel.fr 1
              have lX3 : X < w3.heap.size := hp3.cel.lt
              replace hp3 : Hid _ := hp3
              (refine hK _ _ ?_; clear hK K)
              refine wpAny_ready (rs := [4]) (by kernel_rfl) (by simp) ?_
              refine AllReady.cons rfl (fun K hK => ?_) AllReady.nil
              go_simp
              (refine hK _ _ ?_; clear hK K)
              refine wpAny_ready (rs := [5]) (by kernel_rfl) (by simp) ?_
              refine AllReady.cons rfl (fun K hK => ?_) AllReady.nil
              have hpW := hp3.out.below hlt hXr (below_new w3 (.cells #[.string (txt x.v), .string (txt x.l), .bool x.back, .int .i64 x.mode, .int .i64 x.lo, .int .i64 x.hi] 64))
              refine step_append _ (by rfl) _ _ _ (by rfl) (w.heap.size + 1) 64 j0 _ 6 64 Tryz.underlying59 hj0.out hy0.out hy1.out hy2.out (by rfl) (by omega) _ _ _ (by rfl) hpW.ed.own ⟨w3.heap.size, 0, none⟩ 1 1 [.string (txt x.v), .string (txt x.l), .bool x.back, .int .i64 x.mode, .int .i64 x.lo, .int .i64 x.hi] (by rfl) (by rfl) (news_one w3 _ [.string (txt x.v), .string (txt x.l), .bool x.back, .int .i64 x.mode, .int .i64 x.lo, .int .i64 x.hi] 64 rfl) (EEd.one x [.string (txt x.v), .string (txt x.l), .bool x.back, .int .i64 x.mode, .int .i64 x.lo, .int .i64 x.hi] (fun _ => False) w3 rfl) (by unfold maxLen; omega) (by omega) (by have := hpW.only.size; simp at *; omega) ?_
              intro p5 c5 w5 ho5 hg5 hv5
              have hq5 := hpW.moreE (x := x) hlt hXr ho5 hg5 hv5 (by omega)
              have hS5 := (hpW.cel.onlyS (grown_only hg5) hpW.eX).c1
              have xf5 := (hpW.cel.onlyS (grown_only hg5) hpW.eX).fr 1
              clear hpW ho5 hg5 hv5
              replace hq5 : Hid _ := hq5
              (refine hK _ _ ?_; clear hK K)
              refine wpAny_ready (rs := [6]) (by kernel_rfl) (by simp) ?_
              refine AllReady.cons rfl (fun K hK => ?_) AllReady.nil
              go_simp
              (refine hK _ _ ?_; clear hK K)
              refine wpAny_ready (rs := [7]) (by kernel_rfl) (by simp) ?_
              refine AllReady.cons rfl (fun K hK => ?_) AllReady.nil
              go_simp
              (refine hK _ _ ?_; clear hK K)
              refine wpAny_done (by kernel_rfl) ?_ _
              go_wp2_with fail
              go_meet
              case rel => exact ⟨p5, c5, hq5.out⟩
            · refine AllReady.cons rfl (fun K hK => ?_) AllReady.nil
              go_simp
              have hh := hE.out _ (hp2.out.rd.below (Below.drew (Below.refl w2.heap.size w2)))
              (with_reducible refine Calls.mono hh ?_)
              clear hh
              rintro e w3 ⟨ho3, _, rfl, rfl, hr3⟩
              have hoK := (only_of_below (B := B) (Below.drew (Below.refl w2.heap.size w2))).trans ho3
              clear ho3
              have hp3 := hp2.out.on hlt hXr hoK hr3
              have l3 := hp3.cel.c1
              have f3 := hp3.cel.fr 1
              have lX3 : X < w3.heap.size := hp3.cel.lt
              replace hp3 : Hid _ := hp3
              (refine hK _ _ ?_; clear hK K)
              refine wpAny_ready (rs := [1, 4]) (by kernel_rfl) (by simp) ?_
              refine AllReady.cons rfl (fun K hK => ?_) ?_
              · go_simp
                (refine hK _ _ ?_; clear hK K)
                refine wpAny_ready (rs := [4]) (by kernel_rfl) (by simp) ?_
                refine AllReady.cons rfl (fun K hK => ?_) AllReady.nil
                go_simp
                (refine hK _ _ ?_; clear hK K)
                refine wpAny_ready (rs := [5]) (by kernel_rfl) (by simp) ?_
                refine AllReady.cons rfl (fun K hK => ?_) AllReady.nil
                have hpW := hp3.out.below hlt hXr (below_new w3 (.cells #[.string (txt x.v), .string (txt x.l), .bool x.back, .int .i64 x.mode, .int .i64 x.lo, .int .i64 x.hi] 64))
                refine step_append _ (by rfl) _ _ _ (by rfl) (w.heap.size + 1) 64 j0 _ 6 64 Tryz.underlying59 hj0.out hy0.out hy1.out hy2.out (by rfl) (by omega) _ _ _ (by rfl) hpW.ed.own ⟨w3.heap.size, 0, none⟩ 1 1 [.string (txt x.v), .string (txt x.l), .bool x.back, .int .i64 x.mode, .int .i64 x.lo, .int .i64 x.hi] (by rfl) (by rfl) (news_one w3 _ [.string (txt x.v), .string (txt x.l), .bool x.back, .int .i64 x.mode, .int .i64 x.lo, .int .i64 x.hi] 64 rfl) (EEd.one x [.string (txt x.v), .string (txt x.l), .bool x.back, .int .i64 x.mode, .int .i64 x.lo, .int .i64 x.hi] (fun _ => False) w3 rfl) (by unfold maxLen; omega) (by omega) (by have := hpW.only.size; simp at *; omega) ?_
                intro p5 c5 w5 ho5 hg5 hv5
                have hq5 := hpW.moreE (x := x) hlt hXr ho5 hg5 hv5 (by omega)
                have hS5 := (hpW.cel.onlyS (grown_only hg5) hpW.eX).c1
                have xf5 := (hpW.cel.onlyS (grown_only hg5) hpW.eX).fr 1
                clear hpW ho5 hg5 hv5
                replace hq5 : Hid _ := hq5
                (refine hK _ _ ?_; clear hK K)
                refine wpAny_ready (rs := [6]) (by kernel_rfl) (by simp) ?_
                refine AllReady.cons rfl (fun K hK => ?_) AllReady.nil
                go_simp
                (refine hK _ _ ?_; clear hK K)
                refine wpAny_ready (rs := [7]) (by kernel_rfl) (by simp) ?_
                refine AllReady.cons rfl (fun K hK => ?_) AllReady.nil
                go_simp
                (refine hK _ _ ?_; clear hK K)
                refine wpAny_done (by kernel_rfl) ?_ _
                go_wp2_with fail
                go_meet
                case rel => exact ⟨p5, c5, hq5.out⟩
              · refine AllReady.cons rfl (fun K hK => ?_) AllReady.nil
                go_simp
                (refine hK _ _ ?_; clear hK K)
                refine wpAny_ready (rs := [1]) (by kernel_rfl) (by simp) ?_
                refine AllReady.cons rfl (fun K hK => ?_) AllReady.nil
                go_simp
                (refine hK _ _ ?_; clear hK K)
                refine wpAny_ready (rs := [5]) (by kernel_rfl) (by simp) ?_
                refine AllReady.cons rfl (fun K hK => ?_) AllReady.nil
                have hpW := hp3.out.below hlt hXr (below_new w3 (.cells #[.string (txt x.v), .string (txt x.l), .bool x.back, .int .i64 x.mode, .int .i64 x.lo, .int .i64 x.hi] 64))
                refine step_append _ (by rfl) _ _ _ (by rfl) (w.heap.size + 1) 64 j0 _ 6 64 Tryz.underlying59 hj0.out hy0.out hy1.out hy2.out (by rfl) (by omega) _ _ _ (by rfl) hpW.ed.own ⟨w3.heap.size, 0, none⟩ 1 1 [.string (txt x.v), .string (txt x.l), .bool x.back, .int .i64 x.mode, .int .i64 x.lo, .int .i64 x.hi] (by rfl) (by rfl) (news_one w3 _ [.string (txt x.v), .string (txt x.l), .bool x.back, .int .i64 x.mode, .int .i64 x.lo, .int .i64 x.hi] 64 rfl) (EEd.one x [.string (txt x.v), .string (txt x.l), .bool x.back, .int .i64 x.mode, .int .i64 x.lo, .int .i64 x.hi] (fun _ => False) w3 rfl) (by unfold maxLen; omega) (by omega) (by have := hpW.only.size; simp at *; omega) ?_
                intro p5 c5 w5 ho5 hg5 hv5
                have hq5 := hpW.moreE (x := x) hlt hXr ho5 hg5 hv5 (by omega)
                have hS5 := (hpW.cel.onlyS (grown_only hg5) hpW.eX).c1
                have xf5 := (hpW.cel.onlyS (grown_only hg5) hpW.eX).fr 1
                clear hpW ho5 hg5 hv5
                replace hq5 : Hid _ := hq5
                (refine hK _ _ ?_; clear hK K)
                refine wpAny_ready (rs := [6]) (by kernel_rfl) (by simp) ?_
                refine AllReady.cons rfl (fun K hK => ?_) AllReady.nil
                go_simp
                (refine hK _ _ ?_; clear hK K)
                refine wpAny_ready (rs := [7]) (by kernel_rfl) (by simp) ?_
                refine AllReady.cons rfl (fun K hK => ?_) AllReady.nil
                go_simp
                (refine hK _ _ ?_; clear hK K)
                refine wpAny_done (by kernel_rfl) ?_ _
                go_wp2_with fail
                go_meet
                case rel => exact ⟨p5, c5, hq5.out⟩
          case rest =>
            obtain ⟨p5, c5, hq5⟩ := hcut
            clear hp2 x1 xf hE
            have hN := fun W (hr : Rd W B E d M2) => node_any hr
            go_upto_region 4 with fail
            cases hV : nodeP E M2 with
            | bad a y2 =>
              rw [hV] at hN hF3
              have hF4 : Res.bad a y2 = F := hF3
              subst hF4
              clear hF3 hV
              replace hN : Hid _ := hN
              have hq3 := fun (_ : Unit) => hN.out _ (hq5.rd.below (Below.drew (Below.refl wc.heap.size wc)))
              have hfin : ∀ act w5, act.defers = [] → Only (· = B) wc.drew w5 → bodyPost Tryz.prog Tryz.f34 (Ans w B E d (.bad a y2) (IsPt w.heap.size)) (.panic [{ v := .iface 91 (refV a y2), recovered := false }]) act w5 := fun act w5 hd ho5 =>
                end_bad hd (hZ.trans (hq5.only.trans ((only_of_below (B := B) (Below.drew (Below.refl wc.heap.size wc))).trans ho5)))
              obtain ⟨x0, x1, xf⟩ := hq5.cel
              clear hq5
              replace hq3 : Hid _ := hq3
              replace hfin : Hid _ := hfin
              refine wp_region_any (by kernel_rfl) ?_
              change wpAny _ _ _ _ _ _ _ (World.drew _)
              refine wpAny_take (i := 0) (v := .pointer (some ⟨X, 0, none⟩)) rfl (by kernel_rfl) (by kernel_rfl) (by kernel_rfl) (fun _ _ _ h => h) (Or.inl ⟨by rfl, by intro w; go_simp⟩) ?_
              refine wpAny_take (i := 2) (v := rp B) rfl (by kernel_rfl) (by kernel_rfl) (by kernel_rfl) (fun _ _ _ h => h) (Or.inl ⟨by rfl, by intro w; go_simp⟩) ?_
              refine wpAny_ready (rs := [1, 3]) (by kernel_rfl) (by simp) ?_
              refine AllReady.cons rfl (fun K hK => ?_) ?_
              · go_simp
                (refine hK _ _ ?_; clear hK K)
                refine wpAny_ready (rs := [3]) (by kernel_rfl) (by simp) ?_
                refine AllReady.cons rfl (fun K hK => ?_) AllReady.nil
                go_simp
                have hh := hq3.out ()
                (with_reducible refine Calls.mono hh ?_)
                rintro e w5 ⟨ho5, rfl⟩
                exact hfin.out _ _ rfl ho5
              · refine AllReady.cons rfl (fun K hK => ?_) AllReady.nil
                go_simp
                have hh := hq3.out ()
                (with_reducible refine Calls.mono hh ?_)
                rintro e w5 ⟨ho5, rfl⟩
                exact hfin.out _ _ rfl ho5
            | ok y2 M3 =>
              rw [hV] at hN hF3
              have hF4 : pattG E k' ⟨q.nodes ++ [y2], q.edges ++ [x]⟩ M3 = F := hF3
              have hs3 := shr_node E M2 y2 M3 hV
              clear hF3
              replace hN : Hid _ := hN
              replace hV : Hid _ := hV
              replace hF4 : Hid _ := hF4
              obtain ⟨x0, x1, xf⟩ := hq5.cel
              clear x1
              replace hq5 : Hid _ := hq5
              have hl1 : (q.nodes ++ [y2]).length = q.nodes.length + 1 := by simp
              have hl2 : (q.edges ++ [x]).length = q.edges.length + 1 := by simp
              replace hl1 : Hid _ := hl1
              replace hl2 : Hid _ := hl2
              refine wp_region_any (by kernel_rfl) ?_
              change wpAny _ _ _ _ _ _ _ (World.drew _)
              refine wpAny_take (i := 0) (v := .pointer (some ⟨X, 0, none⟩)) rfl (by kernel_rfl) (by kernel_rfl) (by kernel_rfl) (fun _ _ _ h => h) (Or.inl ⟨by rfl, by intro w; go_simp⟩) ?_
              refine wpAny_take (i := 2) (v := rp B) rfl (by kernel_rfl) (by kernel_rfl) (by kernel_rfl) (fun _ _ _ h => h) (Or.inl ⟨by rfl, by intro w; go_simp⟩) ?_
              refine wpAny_ready (rs := [1, 3]) (by kernel_rfl) (by simp) ?_
              refine AllReady.cons rfl (fun K hK => ?_) ?_
              · go_simp
                (refine hK _ _ ?_; clear hK K)
                refine wpAny_ready (rs := [3]) (by kernel_rfl) (by simp) ?_
                refine AllReady.cons rfl (fun K hK => ?_) AllReady.nil
                go_simp
                have hh := hN.out _ (hq5.out.rd.below (Below.drew (Below.refl wc.heap.size wc)))
                (with_reducible refine Calls.mono hh ?_)
                clear hh
                rintro e w6 ⟨ho6, _, rfl, rfl, hr6⟩
                have hoK := (only_of_below (B := B) (Below.drew (Below.refl wc.heap.size wc))).trans ho6
                clear ho6
                have hp3 := hq5.out.on hlt hXr hoK hr6
                have l3 := hp3.cel.c0
                have f3 := hp3.cel.fr 0
                have lX3 : X < w6.heap.size := hp3.cel.lt
                replace hp3 : Hid _ := hp3
                (refine hK _ _ ?_; clear hK K)
                refine wpAny_ready (rs := [4]) (by kernel_rfl) (by simp) ?_
                refine AllReady.cons rfl (fun K hK => ?_) AllReady.nil
                go_simp
                (refine hK _ _ ?_; clear hK K)
                refine wpAny_ready (rs := [5]) (by kernel_rfl) (by simp) ?_
                refine AllReady.cons rfl (fun K hK => ?_) AllReady.nil
                have hnl : (Pt.mk q.nodes (q.edges ++ [x])).nodes.length + 1 ≤ 4097 := (show q.nodes.length + 1 ≤ 4097 by omega)
                have hpW := hp3.out.below hlt hXr (below_new w6 (.cells #[.string (txt y2.v), .string (txt y2.l)] 66))
                refine step_append _ (by rfl) _ _ _ (by rfl) (w.heap.size + 1) 66 i0 _ 2 32 Tryz.underlying58 hi0.out hz0.out hz1.out hz2.out (by rfl) (by omega) _ _ _ (by rfl) hpW.nd.own ⟨w6.heap.size, 0, none⟩ 1 1 [.string (txt y2.v), .string (txt y2.l)] (by rfl) (by rfl) (news_one w6 _ [.string (txt y2.v), .string (txt y2.l)] 66 rfl) (ENd.one y2 [.string (txt y2.v), .string (txt y2.l)] (fun _ => False) w6 rfl) (by unfold maxLen; omega) (by omega) (by have := hpW.only.size; simp at *; omega) ?_
                intro p7 c7 w7 ho7 hg7 hv7
                have hq7 := hpW.moreN (y := y2) hlt hXr ho7 hg7 hv7 (by omega)
                have hS7 := (hpW.cel.onlyS (grown_only hg7) hpW.nX).c0
                have xf7 := (hpW.cel.onlyS (grown_only hg7) hpW.nX).fr 0
                clear hpW ho7 hg7 hv7
                replace hq7 : Hid _ := hq7
                (refine hK _ _ ?_; clear hK K)
                refine wpAny_ready (rs := [6]) (by kernel_rfl) (by simp) ?_
                refine AllReady.cons rfl (fun K hK => ?_) AllReady.nil
                go_simp
                (refine hK _ _ ?_; clear hK K)
                refine wpAny_ready (rs := [7]) (by kernel_rfl) (by simp) ?_
                refine AllReady.cons rfl (fun K hK => ?_) AllReady.nil
                go_simp
                (refine hK _ _ ?_; clear hK K)
                refine wpAny_done (by kernel_rfl) ?_ _
                generalize w7.setCell ⟨X, 0, none⟩ (.slice p7 (q.nodes.length + 1) c7) = W7 at *
                go_wp2_with fail
                go_roundg k'
                case measure => omega
                case rel => exact ⟨⟨q.nodes ++ [y2], q.edges ++ [x]⟩, M3, p7, p5, c7, c5, _, _, by rw [hl1.out, hl2.out]; exact hq7.out, by omega, by omega, by rw [hl1.out]; omega, by rw [hl2.out]; omega, hF4.out⟩
              · refine AllReady.cons rfl (fun K hK => ?_) AllReady.nil
                go_simp
                have hh := hN.out _ (hq5.out.rd.below (Below.drew (Below.refl wc.heap.size wc)))
                (with_reducible refine Calls.mono hh ?_)
                clear hh
                rintro e w6 ⟨ho6, _, rfl, rfl, hr6⟩
                have hoK := (only_of_below (B := B) (Below.drew (Below.refl wc.heap.size wc))).trans ho6
                clear ho6
                have hp3 := hq5.out.on hlt hXr hoK hr6
                have l3 := hp3.cel.c0
                have f3 := hp3.cel.fr 0
                have lX3 : X < w6.heap.size := hp3.cel.lt
                replace hp3 : Hid _ := hp3
                (refine hK _ _ ?_; clear hK K)
                refine wpAny_ready (rs := [1, 4]) (by kernel_rfl) (by simp) ?_
                refine AllReady.cons rfl (fun K hK => ?_) ?_
                · go_simp
                  (refine hK _ _ ?_; clear hK K)
                  refine wpAny_ready (rs := [4]) (by kernel_rfl) (by simp) ?_
                  refine AllReady.cons rfl (fun K hK => ?_) AllReady.nil
                  go_simp
                  (refine hK _ _ ?_; clear hK K)
                  refine wpAny_ready (rs := [5]) (by kernel_rfl) (by simp) ?_
                  refine AllReady.cons rfl (fun K hK => ?_) AllReady.nil
                  have hnl : (Pt.mk q.nodes (q.edges ++ [x])).nodes.length + 1 ≤ 4097 := (show q.nodes.length + 1 ≤ 4097 by omega)
                  have hpW := hp3.out.below hlt hXr (below_new w6 (.cells #[.string (txt y2.v), .string (txt y2.l)] 66))
                  refine step_append _ (by rfl) _ _ _ (by rfl) (w.heap.size + 1) 66 i0 _ 2 32 Tryz.underlying58 hi0.out hz0.out hz1.out hz2.out (by rfl) (by omega) _ _ _ (by rfl) hpW.nd.own ⟨w6.heap.size, 0, none⟩ 1 1 [.string (txt y2.v), .string (txt y2.l)] (by rfl) (by rfl) (news_one w6 _ [.string (txt y2.v), .string (txt y2.l)] 66 rfl) (ENd.one y2 [.string (txt y2.v), .string (txt y2.l)] (fun _ => False) w6 rfl) (by unfold maxLen; omega) (by omega) (by have := hpW.only.size; simp at *; omega) ?_
                  intro p7 c7 w7 ho7 hg7 hv7
                  have hq7 := hpW.moreN (y := y2) hlt hXr ho7 hg7 hv7 (by omega)
                  have hS7 := (hpW.cel.onlyS (grown_only hg7) hpW.nX).c0
                  have xf7 := (hpW.cel.onlyS (grown_only hg7) hpW.nX).fr 0
                  clear hpW ho7 hg7 hv7
                  replace hq7 : Hid _ := hq7
                  (refine hK _ _ ?_; clear hK K)
                  refine wpAny_ready (rs := [6]) (by kernel_rfl) (by simp) ?_
                  refine AllReady.cons rfl (fun K hK => ?_) AllReady.nil
                  go_simp
                  (refine hK _ _ ?_; clear hK K)
                  refine wpAny_ready (rs := [7]) (by kernel_rfl) (by simp) ?_
                  refine AllReady.cons rfl (fun K hK => ?_) AllReady.nil
                  go_simp
                  (refine hK _ _ ?_; clear hK K)
                  refine wpAny_done (by kernel_rfl) ?_ _
                  generalize w7.setCell ⟨X, 0, none⟩ (.slice p7 (q.nodes.length + 1) c7) = W7 at *
                  go_wp2_with fail
                  go_roundg k'
                  case measure => omega
                  case rel => exact ⟨⟨q.nodes ++ [y2], q.edges ++ [x]⟩, M3, p7, p5, c7, c5, _, _, by rw [hl1.out, hl2.out]; exact hq7.out, by omega, by omega, by rw [hl1.out]; omega, by rw [hl2.out]; omega, hF4.out⟩
                · refine AllReady.cons rfl (fun K hK => ?_) AllReady.nil
                  go_simp
                  (refine hK _ _ ?_; clear hK K)
                  refine wpAny_ready (rs := [1]) (by kernel_rfl) (by simp) ?_
                  refine AllReady.cons rfl (fun K hK => ?_) AllReady.nil
                  go_simp
                  (refine hK _ _ ?_; clear hK K)
                  refine wpAny_ready (rs := [5]) (by kernel_rfl) (by simp) ?_
                  refine AllReady.cons rfl (fun K hK => ?_) AllReady.nil
                  have hnl : (Pt.mk q.nodes (q.edges ++ [x])).nodes.length + 1 ≤ 4097 := (show q.nodes.length + 1 ≤ 4097 by omega)
                  have hpW := hp3.out.below hlt hXr (below_new w6 (.cells #[.string (txt y2.v), .string (txt y2.l)] 66))
                  refine step_append _ (by rfl) _ _ _ (by rfl) (w.heap.size + 1) 66 i0 _ 2 32 Tryz.underlying58 hi0.out hz0.out hz1.out hz2.out (by rfl) (by omega) _ _ _ (by rfl) hpW.nd.own ⟨w6.heap.size, 0, none⟩ 1 1 [.string (txt y2.v), .string (txt y2.l)] (by rfl) (by rfl) (news_one w6 _ [.string (txt y2.v), .string (txt y2.l)] 66 rfl) (ENd.one y2 [.string (txt y2.v), .string (txt y2.l)] (fun _ => False) w6 rfl) (by unfold maxLen; omega) (by omega) (by have := hpW.only.size; simp at *; omega) ?_
                  intro p7 c7 w7 ho7 hg7 hv7
                  have hq7 := hpW.moreN (y := y2) hlt hXr ho7 hg7 hv7 (by omega)
                  have hS7 := (hpW.cel.onlyS (grown_only hg7) hpW.nX).c0
                  have xf7 := (hpW.cel.onlyS (grown_only hg7) hpW.nX).fr 0
                  clear hpW ho7 hg7 hv7
                  replace hq7 : Hid _ := hq7
                  (refine hK _ _ ?_; clear hK K)
                  refine wpAny_ready (rs := [6]) (by kernel_rfl) (by simp) ?_
                  refine AllReady.cons rfl (fun K hK => ?_) AllReady.nil
                  go_simp
                  (refine hK _ _ ?_; clear hK K)
                  refine wpAny_ready (rs := [7]) (by kernel_rfl) (by simp) ?_
                  refine AllReady.cons rfl (fun K hK => ?_) AllReady.nil
                  go_simp
                  (refine hK _ _ ?_; clear hK K)
                  refine wpAny_done (by kernel_rfl) ?_ _
                  generalize w7.setCell ⟨X, 0, none⟩ (.slice p7 (q.nodes.length + 1) c7) = W7 at *
                  go_wp2_with fail
                  go_roundg k'
                  case measure => omega
                  case rel => exact ⟨⟨q.nodes ++ [y2], q.edges ++ [x]⟩, M3, p7, p5, c7, c5, _, _, by rw [hl1.out, hl2.out]; exact hq7.out, by omega, by omega, by rw [hl1.out]; omega, by rw [hl2.out]; omega, hF4.out⟩
end Go.Proofs.YtefenbonjepjgaaGreatDoor
