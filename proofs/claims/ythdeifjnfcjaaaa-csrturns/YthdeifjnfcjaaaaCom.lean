/-
  common of the program: what rising lists have in common.
-/
import Derived.Test.YthdeifjnfcjaaaaCl
import Derived.Test.YthdeifjnfcjaaaaFrm
import Derived.ScopeJumps
import Derived.Deep.RegionWith
import Derived.Deep.DeepCutAuto
namespace Go.Proofs.Ythdeifjnfcjaaaa
open Go.RowKit Go.Sort
set_option linter.unusedSimpArgs false
set_option linter.unusedVariables false

theorem drop_ok {w : World} {x : IL} (h : ILok w x) (k : Nat) (hk : k ≤ x.l) (a' : Option Addr) (ha : x.l ≤ k ∨ ∃ b off, x.a = some ⟨b, off, none⟩ ∧ a' = some ⟨b, off + k, none⟩) : ILok w ⟨a', x.l - k, x.c - k, x.z.drop k⟩ := by
  obtain ⟨ln, lc, lm, lb, pt, rg⟩ := h
  refine ⟨by simp [ln], Nat.sub_le_sub_right lc k, Nat.le_trans (Nat.sub_le _ _) lm, ?_, ?_, fun z hz => rg z (List.mem_of_mem_drop hz)⟩
  · show (x.l - k) * 8 ≤ _
    omega
  · show PathAt w a' (x.z.drop k)
    rcases ha with ha | ⟨b, off, e1, rfl⟩
    · exact .inl (List.drop_eq_nil_of_le (by omega))
    · rcases pt with pt | ⟨b', off', e2, pt⟩
      · exact .inl (by rw [pt]; simp)
      · rw [e1] at e2
        cases e2
        have := path_part pt k x.z.length (Nat.le_refl _)
        rwa [List.take_length] at this

theorem own_keep {w w' : World} {base : Nat} {v : Value} {n : Nat} {xs : List Value} {e : TypeId} {k : Nat} (h : w.ownsRow base e k v n xs) (hb : ∀ b, v.ownBlock = some b → b < w.heap.size → w'.heap[b]? = w.heap[b]?) : w'.ownsRow base e k v n xs := by
  obtain ⟨h1, h2 | ⟨g, cap, cur, e1, e2, e3, e4⟩⟩ := h
  · exact ⟨h1, .inl h2⟩
  · subst e1
    exact ⟨h1, .inr ⟨g, cap, cur, rfl, e2, (hb g rfl (Array.getElem?_eq_some_iff.1 e3).1).trans e3, e4⟩⟩
/-- A number is met, and the first list led on. -/
theorem CS.take {w wr : World} {L R : List IL} {g cap : Nat} {mv : Value} {M : List Int} {low : Int} (h : CS w wr L R g cap mv M low) (h0 : 0 < R.length) {o : Obj} {w4 : World} {v4 : Value} (hg : (wr.alloc o).grownBy w4 mv.ownBlock) (ho : w4.ownsRow w.heap.size 3 1 v4 (M.length + 1) (iv M ++ [.int .i64 low]))
    (hloc : v4.ownBlock = mv.ownBlock ∨ ∃ q, wr.heap.size ≤ q ∧ v4.ownBlock = some q) :
    (w4.cell? ⟨g, 0, none⟩ = some (.slice (R.getD 0 default).a (R.getD 0 default).l (R.getD 0 default).c) ∧ w4.frozen? ⟨g, 0, none⟩ = false ∧ Below w.heap.size w w4) ∧ ∀ y : IL, ILok w y → Inv (zl L) (zl (R.set 0 y)) (M ++ [low]) low → CS w (w4.setCell ⟨g, 0, none⟩ (.slice y.a y.l y.c)) L (R.set 0 y) g cap v4 (M ++ [low]) low := by
  obtain ⟨_, _, hg1, hg2⟩ := h.at 0 h0
  have hbel : Below w.heap.size w w4 := grown_below (h.bel.alloc h.bel.size o) hg (fun k hk => (h.met.lt k hk).1) (Nat.le_refl _)
  have hown : w4.ownsRow w.heap.size 24 1 (.slice (some ⟨g, 0, none⟩) R.length cap) R.length (rowI R) := own_keep (h.own.alloc o) fun b hb hlt => by
    have e : g = b := by simpa [Value.ownBlock] using hb
    subst e
    exact hg.block g hlt (fun e => h.ap e.symm)
  have hap : v4.ownBlock ≠ some g := by
    rcases hloc with e | ⟨q, h1, h2⟩
    · rw [e]; exact h.ap
    · rw [h2]; intro e; cases e; omega
  obtain ⟨g', cap', e1, k1, k2, k3, k4⟩ := own_at hown 0 h0
  cases e1
  refine ⟨⟨k1.trans (rowI_at R 0 h0), k2 0, hbel⟩, fun y hy hI => ⟨hbel.setCell hg1 _, ?_, ?_, hap, fun j hj => ?_, hI, by simpa using h.len⟩⟩
  · have := own_put hown 0 h0 (.slice y.a y.l y.c)
    rw [List.length_set, rowI_set]
    exact this
  · have := own_set ho (p := ⟨g, 0, none⟩) (.slice y.a y.l y.c) hap
    rw [List.length_append]
    simpa [iv] using this
  · have hj' : j < R.length := by simpa using hj
    by_cases e : j = 0
    · subst e; rw [getD_set_same h0]; exact hy
    · rw [getD_set_other e]; exact h.oks j hj'

/-- What stands where the lists are through. -/
def JJ (L : List IL) (w : World) (a' : Act) (w' : World) : Prop := ∃ (M : List Int) (mv : Value) (t : Array Value), a' = { tmps := t, defers := [] } ∧ t.size = 59 ∧ t.getD 3 undef = mv ∧ IsMet (zl L) M ∧ M.length ≤ (L.getD 0 default).l ∧ w'.ownsRow w.heap.size 3 1 mv M.length (iv M) ∧ Below w.heap.size w w'

set_option maxRecDepth 100000 in
set_option maxHeartbeats 8000000 in
theorem common_any (ad : Addr) (n c : Nat) (L : List IL) (w : World) (hn : L.length = n) (h0 : 0 < n) (hL : ILsAt w (some ad) L) (hX : n * 24 ≤ 140737488355328) (hs : ∀ j, j < n → Ris (L.getD j default).z) :
    Calls Try.prog 13 #[.slice (some ad) n c] w fun e w' => ∃ u M, e = .returned u ∧ IsMet (zl L) M ∧ M.length ≤ (L.getD 0 default).l ∧ w'.ownsRow w.heap.size 3 1 u M.length (iv M) ∧ Below w.heap.size w w' := by
  have hCl := cloneI ad n c L w hn hL hX
  have hst : ∀ w1 g cap, w1.ownsRow w.heap.size 24 1 (.slice (some ⟨g, 0, none⟩) n cap) n (rowI L) → Below w.heap.size w w1 → CS w w1 L L g cap (.slice none 0 0) [] (-9223372036854775808) := fun w1 g cap ho hb =>
    ⟨hb, by rw [hn]; exact ho, World.ownsRow_nil _ _ _ _, by simp [Value.ownBlock], fun j hj => hL.oks j hj, Inv.start (fun j hj => by rw [zl_len] at hj; rw [zl_at L j hj]; exact hs j (by omega)) (by rw [zl_len]; omega) (fun z hz => by rw [zl_at L 0 (by omega)] at hz; exact ((hL.oks 0 (by omega)).rg z hz).1), rfl⟩
  have hl0 := (hL.oks 0 (by omega)).ln
  have hb0 := (hL.oks 0 (by omega)).lb
  replace hCl : Hid _ := hCl
  replace hst : Hid _ := hst
  replace hn : Hid _ := hn
  clear hL hs
  go_enter Try.func13, Try.ntmps13
  go_wp2_with fail
  refine wp_scope_jumps 0 (JJ L w) (fun _ _ => 0) rfl ?_ ?_
  case refine_2 =>
    rintro a' w' ⟨M, mv, t, rfl, hsz, g3, hM, hMl, hown, hbel⟩
    obtain ⟨u, rfl⟩ := frame59 t hsz
    replace g3 : u 3 = mv := g3
    rw [g3]
    clear g3 hsz
    obtain ⟨ma, mc, rfl⟩ := own_slice hown
    replace hown : Hid _ := hown
    replace hM : Hid _ := hM
    go_wp2_with fail
    simp only [Exit.jump]
    change bodyPost Try.prog Try.f13 _ _ _ _
    refine bodyPost_ret (results_tmp rfl _ _ _) rfl ?_
    exact ⟨_, M, rfl, hM.out, hMl, hown.out, hbel⟩
  go_wp2_with (go_at_call 20; refine Calls.mono hCl.out ?_; rintro e w1 ⟨u, rfl, ho, hb⟩; obtain ⟨g, cap, rfl, -, -, -, -⟩ := own_at ho 0 h0)
  have hcs := hst.out w1 g cap ho hb
  clear hst ho hb hCl
  replace hcs : Hid _ := hcs
  go_loopg [3, 5] (2 * (L.getD 0 default).l + 1) (fun k v3 v5 wr => ∃ (R : List IL) (M : List Int) (low : Int), v5 = .int .i64 low ∧ CS w wr L R g cap v3 M low ∧ mu (R.getD 0 default).z low ≤ k)
  case atStart => exact ⟨L, [], _, rfl, hcs.out, by have := mu_le (L.getD 0 default).z (-9223372036854775808); omega⟩
  case round =>
    obtain ⟨R, M, low, rfl, hcs, hmu⟩ := hrel
    have hRn : R.length = n := hcs.len.trans hn.out
    obtain ⟨ma, mc, rfl⟩ := own_slice hcs.met
    replace hcs : Hid _ := hcs
    replace hRn : Hid _ := hRn
    go_wp2_with fail
    go_loopw [5, 11] (fun v5 v11 wr => ∃ (i : Nat) (R : List IL) (low : Int), v5 = .int .i64 low ∧ v11 = .int .i64 i ∧ i ≤ n ∧ R.length = n ∧ CS w wr L R g cap (.slice ma M.length mc) M low ∧ (i = 0 → mu (R.getD 0 default).z low ≤ gk) ∧ (0 < i → 2 * (R.getD 0 default).z.length + 1 ≤ gk ∧ Ch R i low)) (fun _ v11 _ => n - (intOf v11).toNat)
    case atStart => exact ⟨0, R, low, rfl, rfl, by omega, hRn.out, hcs.out, fun _ => hmu, fun h => by omega⟩
    case round =>
      clear hcs hmu hRn
      obtain ⟨i, R, low, rfl, rfl, hi, hRn, hcs, hm0, hm1⟩ := hrel
      by_cases hin : i < n
      · have hiR : i < R.length := by rw [hRn]; exact hin
        have hok := hcs.oks i hiR
        have hris := srt_at hcs i hiR
        have hled := fun y hy => led hcs hiR y hy
        obtain ⟨cx, fx, hg1, hg2⟩ := hcs.at i hiR
        have hput := fun w' (hb : Below wr.heap.size wr w') y hy hz => CS.put (hcs.below hb) hiR y hy (hled y hz) rfl
        generalize hX : R.getD i default = X at hok hris hled cx hput
        replace hX : Hid _ := hX
        replace hRn : Hid _ := hRn
        replace hm0 : Hid _ := hm0
        replace hm1 : Hid _ := hm1
        replace hled : Hid _ := hled
        replace hput : Hid _ := hput
        replace hcs : Hid _ := hcs
        have hkl : cb X.z low ≤ X.l := by have := cb_le X.z low; rw [hok.ln] at this; exact this
        have hCB := fun w' (hb : Below w.heap.size w w') => countBelow_any X.a X.l X.c X.z low w' hok.ln (by have := hok.lb; omega) hok.lc hok.lm (hok.pt.below hb) hris
        have hnew := fun (a' : Option Addr) (ha : X.l ≤ cb X.z low ∨ ∃ b off, X.a = some ⟨b, off, none⟩ ∧ a' = some ⟨b, off + cb X.z low, none⟩) => drop_ok hok (cb X.z low) hkl a' ha
        have hlc := hok.lc
        have hlm := hok.lm
        have hbel := hcs.out.bel
        have hpt := hok.pt
        have hln := hok.ln
        generalize hk : cb X.z low = k at hkl hCB hnew hput
        replace hk : Hid _ := hk
        replace hCB : Hid _ := hCB
        replace hnew : Hid _ := hnew
        have hgR : (i : Int) < (n : Int) := by omega
        go_upto_region 7 with fail
        go_cut [27] (fun v27 wx => ∃ y : IL, ILok w y ∧ y.z = X.z.drop k ∧ CS w wx L (R.set i y) g cap (.slice ma M.length mc) M low)
        case first =>
          have hcur : Below wr.heap.size wr wr.drew := (Below.refl _ _).drew
          unfold maxLen at hlm
          rcases hpt with hz0 | ⟨b, off, ea, -⟩
          · have hl00 : X.l = 0 := by rw [← hln, hz0]; rfl
            obtain rfl : k = 0 := by omega
            rw [hl00] at cx hCB hnew hlc
            have hnew' := fun a' => hnew.out a' (.inl (Nat.le_refl _))
            clear hnew
            generalize X.a = xa at cx hCB
            replace hnew' : Hid _ := hnew'
            cases xa with
            | none =>
              go_region_with (go_at_call 21; refine Calls.mono (hCB.out _ (below_on hbel hcur)) ?_; rintro e w2 ⟨rfl, hb2⟩; replace hcur := below_on hcur hb2; have cx2 := (hcur.cell (World.block_lt_of_cell? _ _ cx)).trans cx; have fx2 := (hcur.frozen (World.block_lt_of_cell? _ _ cx)).trans fx)
              all_goals
                go_wp2_with fail
                go_meet
                case rel => exact ⟨_, hnew'.out none, rfl, hput.out w2 hcur _ (hnew'.out none) rfl⟩
            | some ad' =>
              go_region_with (go_at_call 21; refine Calls.mono (hCB.out _ (below_on hbel hcur)) ?_; rintro e w2 ⟨rfl, hb2⟩; replace hcur := below_on hcur hb2; have cx2 := (hcur.cell (World.block_lt_of_cell? _ _ cx)).trans cx; have fx2 := (hcur.frozen (World.block_lt_of_cell? _ _ cx)).trans fx)
              all_goals
                go_wp2_with fail
                go_meet
                case rel => exact ⟨_, hnew'.out (some ad'), rfl, hput.out w2 hcur _ (hnew'.out (some ad')) rfl⟩
          · rw [ea] at cx hCB hnew
            replace hln : Hid _ := hln
            go_region_with (go_at_call 21; refine Calls.mono (hCB.out _ (below_on hbel hcur)) ?_; rintro e w2 ⟨rfl, hb2⟩; replace hcur := below_on hcur hb2; have cx2 := (hcur.cell (World.block_lt_of_cell? _ _ cx)).trans cx; have fx2 := (hcur.frozen (World.block_lt_of_cell? _ _ cx)).trans fx)
            all_goals
              go_wp2_with fail
              all_goals
                go_meet
                case rel =>
                  first
                    | (have e0 : X.c - k = 0 := by omega
                       have hN := hnew.out (some ⟨b, off, none⟩) (.inl (by omega))
                       rw [e0] at hN
                       exact ⟨_, hN, rfl, hput.out w2 hcur _ hN rfl⟩)
                    | exact ⟨_, hnew.out _ (.inr ⟨b, off, rfl, rfl⟩), rfl, hput.out w2 hcur _ (hnew.out _ (.inr ⟨b, off, rfl, rfl⟩)) rfl⟩
        case rest =>
          obtain ⟨y, hy, hyz, hcs'⟩ := hcut
          have hiR' : i < (R.set i y).length := by simpa using hiR
          obtain ⟨cy, fy, -, -⟩ := hcs'.at i hiR'
          rw [getD_set_same hiR] at cy
          have hyl := hy.ln
          clear hput hnew hCB hled hpt hlc hlm hkl cx fx hln hbel hcs
          replace hok := hok.ln
          replace hris : Hid _ := hris
          cases hyc : y.z with
          | nil =>
            have hl0' : y.l = 0 := by rw [← hyl, hyc]; rfl
            rw [hl0'] at cy
            have hdone := hcs'.inv.done (i := i) (by rw [zl_len]; exact hiR') (by rw [zl_at _ i hiR', getD_set_same hiR]; exact hyc)
            have hcnt := hcs'.inv.cnt
            rw [zl_at L 0 (by have := hn.out; omega), hl0] at hcnt
            replace hcs' : Hid _ := hcs'
            replace hdone : Hid _ := hdone
            replace hcnt : Hid _ := hcnt
            replace hyc : Hid _ := hyc
            replace hyz : Hid _ := hyz
            clear hyl hl0'
            go_wp2_with fail
            go_step3
            exact ⟨rfl, M, _, _, rfl, rfl, rfl, hdone.out, by have := hcnt.out; omega, hcs'.out.met, hcs'.out.bel⟩
          | cons x t =>
            obtain ⟨b, off, ea, hcell⟩ := hy.pt.all (by rw [hyc]; simp)
            have c0 := (hcs'.bel.cell (World.block_lt_of_cell? _ _ (hcell 0 (by rw [hyc]; simp)))).trans (hcell 0 (by rw [hyc]; simp))
            rw [hyc] at c0
            simp only [List.getD_cons_zero, Nat.add_zero] at c0
            rw [ea] at cy
            have hyl' : (0 : Int) < (y.l : Int) := by rw [hyc] at hyl; simp at hyl; omega
            have hyn : ¬ (y.l : Int) = 0 := by omega
            have hxl : low ≤ x := (cb_split hris.out low).2 x (by rw [hk.out, ← hyz, hyc]; simp)
            have hraise := hcs'.raise (i := i) hiR' (t := t) (x := x) (by rw [getD_set_same hiR]; exact hyc)
            have hch : Ch (R.set i y) (i + 1) x := Ch.next (low := low) (t := t) (by
              by_cases e : i = 0
              · rw [e]; intro j hj; omega
              · exact (hm1.out (by omega)).2) hiR hyc hxl
            have hmm : 2 * ((R.set i y).getD 0 default).z.length + 1 ≤ gk := by
              by_cases e : i = 0
              · subst e
                rw [getD_set_same hiR, hyz, ← hk.out]
                have h1 := mu_drop hris.out low
                have h2 := hm0.out rfl
                rw [hX.out] at h2
                omega
              · rw [getD_set_other (Ne.symm e)]
                exact (hm1.out (by omega)).1
            replace hraise : Hid _ := hraise
            replace hch : Hid _ := hch
            replace hmm : Hid _ := hmm
            clear hcs' hcell hyz hyc hyl hok hy
            go_wp2_with fail
            go_roundw
            case rel => exact ⟨i + 1, R.set i y, x, rfl, by go_num, by omega, by rw [List.length_set]; exact hRn.out, hraise.out, fun h => by omega, fun _ => ⟨hmm.out, hch.out⟩⟩
            case measure => simp [intOf]; omega
      · obtain rfl : i = n := by omega
        obtain ⟨hmm, hch⟩ := hm1 h0
        obtain ⟨x, t, hz, hx1, hx2⟩ := hch 0 h0
        have h0R : 0 < R.length := by omega
        obtain ⟨cx, fx, hg1, hg2⟩ := hcs.at 0 h0R
        have hok := hcs.oks 0 h0R
        have hall := fun (e : x = low) => Ch.all (t := t) (by rw [hRn]; exact hch) (by rw [hz, e])
        have hinv := hcs.inv
        have hsz := hcs.bel.size
        have hcnt := hinv.cnt
        rw [zl_at L 0 (by have := hn.out; omega), hl0, zl_at R 0 h0R, hz, List.length_cons] at hcnt
        have htake := fun (e : x = low) (y : IL) (hy : y.z = t) => show Inv (zl L) (zl (R.set 0 y)) (M ++ [low]) low by
          rw [zl_set, hy]
          exact hinv.take (by rw [zl_len]; exact h0R) (by rw [zl_at R 0 h0R, hz, e]) (hall e)
        generalize hX : R.getD 0 default = X at cx hok hz hmm
        obtain ⟨b, off, ea, hcell⟩ := hok.pt.all (by rw [hz]; simp)
        have c0 := (hcs.bel.cell (World.block_lt_of_cell? _ _ (hcell 0 (by rw [hz]; simp)))).trans (hcell 0 (by rw [hz]; simp))
        rw [hz] at c0
        simp only [List.getD_cons_zero, Nat.add_zero] at c0
        have hXl : X.l = t.length + 1 := by rw [← hok.ln, hz]; simp
        have hlc := hok.lc
        have hlm := hok.lm
        unfold maxLen at hlm
        have hnew := fun (a' : Option Addr) (ha : X.l ≤ 1 ∨ ∃ b off, X.a = some ⟨b, off, none⟩ ∧ a' = some ⟨b, off + 1, none⟩) => drop_ok hok 1 (by omega) a' ha
        rw [hz, List.drop_one, List.tail_cons] at hnew
        rw [ea] at cx hnew
        rw [hXl] at hnew cx
        have hI0 : (0 : Int) < (X.l : Int) := by omega
        have hI1 : (1 : Int) ≤ (X.l : Int) := by omega
        rw [hz, List.length_cons] at hmm
        have hnI : (0 : Int) < (i : Int) := by omega
        obtain ⟨i0, hi0, hz0, hz1, hz2⟩ := info_parts info3
        replace hnew : Hid _ := hnew
        replace htake : Hid _ := htake
        replace hX : Hid _ := hX
        replace hcs : Hid _ := hcs
        replace hRn : Hid _ := hRn
        replace hz : Hid _ := hz
        replace hn : Hid _ := hn
        replace ea : Hid _ := ea
        clear hall hinv hch hm0 hm1 hok hcell hx1
        by_cases hxl : x = low
        · subst hxl
          have hmu := mu_le t x
          go_wp2_with (at_builtin; refine wpList_append_own_at _ rfl _ _ 24 rfl w.heap.size 3 i0 (.int .i64 0) 1 8 Try.underlying24 hi0 hz0 hz1 hz2 rfl (by decide) _ _ _ rfl (hcs.out.met.alloc _) ⟨wr.heap.size, 0, none⟩ 1 1 [.int .i64 x] rfl rfl (cell_one_new _ _ _) (by simp [Value.oneCell']) (by unfold maxLen; omega) (by omega) (by simp; omega) ?_; intro v4 w4 ho4 hg4 hnil4 hloc4; obtain ⟨ba, bc, rfl⟩ := own_slice ho4; obtain ⟨⟨d1, d2, d3⟩, hput⟩ := CS.take hcs.out h0R hg4 ho4 (by rcases hloc4 with e | e; exact .inl e; exact .inr ⟨_, by simp, e⟩); rw [hX.out, ea.out] at d1; replace hput : Hid _ := hput; clear cx fx c0)
          all_goals
            go_roundg (mu t x)
            case measure => omega
            case rel =>
              first
                | (have e0 : X.c - 1 = 0 := by omega
                   have hN := hnew.out (some ⟨b, off, none⟩) (.inl (by omega))
                   rw [e0] at hN
                   have hC := hput.out _ hN (htake.out (by trivial) _ rfl)
                   exact ⟨_, _, _, rfl, hC, by rw [getD_set_same h0R]; exact Nat.le_refl _⟩)
                | (have hN := hnew.out (some ⟨b, off + 1, none⟩) (.inr ⟨b, off, rfl, rfl⟩)
                   have hC := hput.out _ hN (htake.out (by trivial) _ rfl)
                   exact ⟨_, _, _, rfl, hC, by rw [getD_set_same h0R]; exact Nat.le_refl _⟩)
        · have hlt : x < low := by omega
          have hne : (x == low) = false := by simpa using hxl
          have hmu := mu_head (t := t) hlt
          replace hmu : Hid _ := hmu
          go_wp2_with fail
          go_roundg (mu (x :: t) low)
          case measure => rw [hmu.out]; omega
          case rel => exact ⟨R, M, low, rfl, hcs.out, by rw [hX.out, hz.out]; exact Nat.le_refl _⟩
end Go.Proofs.Ythdeifjnfcjaaaa
