/-
  The document's own look at a record's properties: props.
-/
import Derived.Test.YtmioohbailhppaaDoorRf2
import Derived.Test.YtmioohbailhppaaDoorRrt
import Derived.Test.YtmioohbailhppaaDoorPur3
namespace Go.Proofs.YtmioohbailhppaaDoor
open Go.RowKit Go.Sort
set_option linter.unusedSimpArgs false
set_option linter.unusedVariables false

def fitD (x : PV) (d : PD) : Bool := decide (d.n = x.n) && (decide (x.v.k = 0) || decide (x.v.k = d.k))
theorem any_next {α : Type} [Inhabited α] (f : α → Bool) (L : List α) (k : Nat) (hk : k < L.length) : (L.take (k + 1)).any f = ((L.take k).any f || f (L.getD k default)) := by
  rw [List.take_succ_eq_append_getElem hk, List.any_append]
  simp only [List.any_cons, List.any_nil, Bool.or_false, List.getD, List.getElem?_eq_getElem hk]
  rfl
theorem props_no {D : List PD} {L : List PV} {j : Nat} (hj : j < L.length) (h : badV D L j = true) : refProps D L = false := by
  rw [refProps, List.all_eq_false]
  exact ⟨j, by simpa using hj, by rw [h]; simp⟩
theorem props_yes {D : List PD} {L : List PV} (h : ∀ j, j < L.length → badV D L j = false) : refProps D L = true := by
  rw [refProps, List.all_eq_true]
  intro j hj
  rw [h j (by simpa using hj)]
  rfl

set_option maxRecDepth 100000 in
set_option maxHeartbeats 8000000 in
theorem refProps_any (tn : ByteArray) (a : Option Addr) (n c : Nat) (D : List PD) (va : Option Addr) (vn vc : Nat) (L : List PV) (w : World) (hn : D.length = n) (hm : n ≤ 9223372036854775807) (hD : PDsAt w a D) (hv : L.length = vn) (hvm : vn ≤ maxLen) (hL : PVsAt w va L) (hT : Tabs w) :
    Calls Tryd.prog 44 #[.agg #[.string tn, .slice a n c], .slice va vn vc] w fun e w' => e = .returned (.bool (refProps D L)) ∧ Below w.heap.size w w' := by
  unfold maxLen at hvm
  have hb0 := below_new w (.cells #[.string tn, .slice a n c] 51)
  have q1 : (w.alloc (.cells #[.string tn, .slice a n c] 51)).cell? ⟨w.heap.size, 1, none⟩ = some (.slice a n c) := by simp only [World.cell?, heap_alloc_new]; simp
  generalize hE : refProps D L = E
  replace hE : Hid _ := hE
  go_enter Tryd.func44, Tryd.ntmps44
  go_wp2_with fail
  generalize w.alloc (.cells #[.string tn, .slice a n c] 51) = w0 at hb0 q1 ⊢
  generalize w.heap.size = B0 at q1 ⊢
  go_loopw [5] (fun v wr => Below w0.heap.size w0 wr ∧ ∃ j : Nat, j ≤ vn ∧ v = .int .i64 j ∧ Hid (∀ k, k < j → badV D L k = false)) (fun v _ => vn - (intOf v).toNat)
  case atStart => exact ⟨Below.refl _ _, 0, by omega, rfl, fun k hk => by omega⟩
  case round =>
    obtain ⟨hb, j, j1, rfl, hz⟩ := hrel
    have hbw := below_on hb0 hb
    by_cases hj : j < vn
    · have hLr := hL.below hbw
      rcases hL with rfl | ⟨y, q, rfl, _⟩
      · simp at hv; omega
      rcases hLr with rfl | ⟨y', q', hyq, hyy⟩
      · simp at hv; omega
      cases hyq
      have hyj := hyy j (by omega)
      have hbj : badV D L j = (!rgtP (L.getD j default) || !declB D (L.getD j default) || dupB L j (L.getD j default).n) := rfl
      obtain ⟨X, hX⟩ : ∃ X, L.getD j default = X := ⟨_, rfl⟩
      rw [hX] at hyj hbj
      replace hX : Hid _ := hX
      have hR := fun w a (b : Tabs w) => refRight_any X.v.k X.v.b X.v.n X.v.s X.v.p X.v.l X.v.c X.v.z (Lib.validD X.v.s.data.toList) w hyj.ln a (valid_any X.v.s hyj.sz w b)
      have hRe : rgtP X = rgtB X.v.k X.v.b X.v.n X.v.s X.v.l X.v.z (Lib.validD X.v.s.data.toList) := rfl
      rw [← hRe] at hR
      generalize rgtP X = rg at hR hbj
      have hpth := hyj.pth
      obtain ⟨m0, m1, m2, m3, m4, m5, -, -, -, -⟩ := hyj
      replace hR : Hid _ := hR
      have hTr := hT.below hbw
      clear hRe
      have q1r := (hb.cell (World.block_lt_of_cell? _ _ q1)).trans q1
      go_wp2_with (go_at_call 62; refine Calls.mono (hR.out _ hpth hTr) ?_; rintro e w5 ⟨rfl, hb5⟩)
      replace m0 := (hb5.cell (World.block_lt_of_cell? _ _ m0)).trans m0
      replace m1 := (hb5.cell (World.block_lt_of_cell? _ _ m1)).trans m1
      replace q1r := (hb5.cell (World.block_lt_of_cell? _ _ q1r)).trans q1r
      clear m2 m3 m4 m5 hR hpth hTr
      have hbw5 := below_on hbw hb5
      go_loopw [7, 8] (fun dv kv wr => Below w5.heap.size w5 wr ∧ ∃ k : Nat, k ≤ n ∧ kv = .int .i64 k ∧ dv = .bool ((D.take k).any (fitD X))) (fun _ kv _ => n - (intOf kv).toNat)
      case atStart => exact ⟨Below.refl _ _, 0, by omega, rfl, by simp⟩
      case round =>
        obtain ⟨hb6, k, k1, rfl, rfl⟩ := hrel
        have g0 := (hb6.cell (World.block_lt_of_cell? _ _ m0)).trans m0
        have g1 := (hb6.cell (World.block_lt_of_cell? _ _ m1)).trans m1
        have gq := (hb6.cell (World.block_lt_of_cell? _ _ q1r)).trans q1r
        by_cases hk : k < n
        · have hDr := hD.below (below_on hbw5 hb6)
          rcases hD with rfl | ⟨da, df, rfl, _⟩
          · simp at hn; omega
          rcases hDr with rfl | ⟨da', df', hdq, hdd⟩
          · simp at hn; omega
          cases hdq
          have hdk := hdd k (by omega)
          have hnx := any_next (fitD X) D k (by omega)
          obtain ⟨Y, hY⟩ : ∃ Y, D.getD k default = Y := ⟨_, rfl⟩
          rw [hY] at hdk hnx
          clear hY hdd
          have e0 := cell_regrown g0
          have e1 := cell_regrown g1
          have e2 := cell_regrown gq
          have e3 := cell_regrown hdk.c0
          have e4 := cell_regrown hdk.c1
          clear hdk g0 g1
          have hjv : (j : Int) < (vn : Int) := by omega
          have hkn : (k : Int) < (n : Int) := by omega
          have hbe : (Y.n.toList == X.n.toList) = decide (Y.n = X.n) := size_ne
          have hfe : fitD X Y = (decide (Y.n = X.n) && (decide (X.v.k = 0) || decide (X.v.k = Y.k))) := rfl
          generalize (D.take k).any (fitD X) = dk at hnx ⊢
          replace hnx : Hid _ := hnx
          replace hfe : Hid _ := hfe
          cases dk
          case true =>
            go_wp2_with fail
            refine wp_region_quiet_below (by kernel_rfl) (by kernel_rfl) ?_
            repeat (first | go_big_quiet_step (fail) | quiet_step (fail))
            refine wpQuiet_nil ?_
            intro _ hw'
            obtain ⟨⟨dq, osq⟩, hw''⟩ := hw'
            subst hw''
            have hb7 := below_on hb6 (below_regrown wr dq osq)
            clear e0 e1 e2 e3 e4
            generalize grow (redrawn wr dq) osq = w7 at hb7 ⊢
            go_wp2_with fail
            go_roundw
            case rel => exact ⟨hb7, k + 1, by omega, rfl, by rw [hnx.out]; rfl⟩
            case measure =>
              show n - ((k : Int) + 1).toNat < n - (k : Int).toNat
              omega
          cases hne : decide (Y.n = X.n)
          case false =>
            rw [hne] at hbe
            replace hne : Hid _ := hne
            go_wp2_with fail
            refine wp_region_quiet_below (by kernel_rfl) (by kernel_rfl) ?_
            repeat (first | go_big_quiet_step (fail) | quiet_step (fail))
            refine wpQuiet_nil ?_
            intro _ hw'
            obtain ⟨⟨dq, osq⟩, hw''⟩ := hw'
            subst hw''
            have hb7 := below_on hb6 (below_regrown wr dq osq)
            clear e0 e1 e2 e3 e4
            generalize grow (redrawn wr dq) osq = w7 at hb7 ⊢
            go_wp2_with fail
            go_roundw
            case rel => exact ⟨hb7, k + 1, by omega, rfl, by rw [hnx.out]; rw [hfe.out, hne.out]; rfl⟩
            case measure =>
              show n - ((k : Int) + 1).toNat < n - (k : Int).toNat
              omega
          case true =>
            rw [hne] at hbe
            replace hne : Hid _ := hne
            cases hz0 : (X.v.k == 0)
            case true =>
              go_wp2_with fail
              refine wp_region_quiet_below (by kernel_rfl) (by kernel_rfl) ?_
              repeat (first | go_big_quiet_step (fail) | quiet_step (fail))
              refine wpQuiet_nil ?_
              intro _ hw'
              obtain ⟨⟨dq, osq⟩, hw''⟩ := hw'
              subst hw''
              have hb7 := below_on hb6 (below_regrown wr dq osq)
              clear e0 e1 e2 e3 e4
              generalize grow (redrawn wr dq) osq = w7 at hb7 ⊢
              go_wp2_with fail
              go_roundw
              case rel => exact ⟨hb7, k + 1, by omega, rfl, by rw [hnx.out]; rw [hfe.out, hne.out, show decide (X.v.k = 0) = true by simpa using hz0]; rfl⟩
              case measure =>
                show n - ((k : Int) + 1).toNat < n - (k : Int).toNat
                omega
            case false =>
              go_wp2_with fail
              refine wp_region_quiet_below (by kernel_rfl) (by kernel_rfl) ?_
              repeat (first | go_big_quiet_step (fail) | quiet_step (fail))
              refine wpQuiet_nil ?_
              intro _ hw'
              obtain ⟨⟨dq, osq⟩, hw''⟩ := hw'
              subst hw''
              have hb7 := below_on hb6 (below_regrown wr dq osq)
              clear e0 e1 e2 e3 e4
              generalize grow (redrawn wr dq) osq = w7 at hb7 ⊢
              go_wp2_with fail
              go_roundw
              case rel => exact ⟨hb7, k + 1, by omega, rfl, by rw [hnx.out]; rw [hfe.out, hne.out, show decide (X.v.k = 0) = false by simpa using hz0]; simp; rfl⟩
              case measure =>
                show n - ((k : Int) + 1).toNat < n - (k : Int).toNat
                omega
        · obtain rfl : k = n := by omega
          have hD2 : (D.take k).any (fitD X) = declB D X := by rw [← hn, List.take_length]; rfl
          rw [hD2]
          clear hD2
          generalize declB D X = dc at hbj ⊢
          have hbw6 := below_on hbw5 hb6
          have hbit : rg = false ∨ rg = true ∧ dc = false ∨ rg = true ∧ dc = true := by cases rg <;> cases dc <;> simp
          rcases hbit with rfl | ⟨rfl, rfl⟩ | ⟨rfl, rfl⟩
          iterate 2
            · have hB := props_no (D := D) (L := L) (j := j) (by omega) (by rw [hbj]; rfl)
              replace hB : Hid _ := hB
              clear hbj hyy
              go_wp2_with fail
              all_goals try (exfalso; simp_all; done)
              go_returns
              exact ⟨by rw [← hE.out, hB.out]; simp, hbw6⟩
          simp only [Bool.not_true, Bool.false_or] at hbj
          go_wp2_with fail
          all_goals try (exfalso; simp_all; done)
          have g0 := (hb6.cell (World.block_lt_of_cell? _ _ m0)).trans m0
          have hyy6 : ∀ i, i < L.length → PVAt wr y (q + i * 6) (L.getD i default) := fun i hi => (hyy i hi).below (below_on hb5 hb6)
          replace hyy6 : Hid _ := hyy6
          have hb06 := below_on hb (below_on hb5 hb6)
          clear hyy
          generalize wr = w8 at g0 hyy6 hbw6 hb06 hb6 ⊢
          go_loopw [9] (fun v wr => Below w8.heap.size w8 wr ∧ ∃ l : Nat, l ≤ j ∧ v = .int .i64 l ∧ ∀ k, k < l → decide ((L.getD k default).n = X.n) = false) (fun v _ => j - (intOf v).toNat)
          case atStart => exact ⟨Below.refl _ _, 0, by omega, rfl, by simp⟩
          case round =>
            obtain ⟨hbl, l, l1, rfl, hzl⟩ := hrel
            have g0r := (hbl.cell (World.block_lt_of_cell? _ _ g0)).trans g0
            by_cases hlj : l < j
            · have hxl := ((hyy6.out l (by omega)).below hbl).c0
              obtain ⟨Y, hY⟩ : ∃ Y, L.getD l default = Y := ⟨_, rfl⟩
              rw [hY] at hxl
              have e0 := cell_regrown g0r
              have e1 := cell_regrown hxl
              have hlv : (l : Int) < (vn : Int) := by omega
              have hjv : (j : Int) < (vn : Int) := by omega
              cases he : decide (Y.n = X.n)
              all_goals
                have hbe : (Y.n.toList == X.n.toList) = decide (Y.n = X.n) := size_ne
                rw [he] at hbe
                replace hzl : Hid _ := hzl
                replace hY : Hid _ := hY
                replace he : Hid _ := he
                go_wp2_with fail
                refine wp_region_quiet_below (by kernel_rfl) (by kernel_rfl) ?_
                repeat (first | go_big_quiet_step (fail) | quiet_step (fail))
                refine wpQuiet_nil ?_
                intro _ hw'
                obtain ⟨⟨dq, osq⟩, hw''⟩ := hw'
                subst hw''
                have hb9 := below_on hbl (below_regrown wr dq osq)
                clear e0 e1
                generalize grow (redrawn wr dq) osq = w9 at hb9 ⊢
                go_wp2_with fail
                all_goals try (exfalso; simp_all; done)
              · go_roundw
                case rel => exact ⟨hb9, l + 1, by omega, rfl, fun k hk => by rcases Nat.lt_succ_iff_lt_or_eq.1 hk with h | rfl; exact hzl.out k h; rw [hY.out]; exact he.out⟩
                case measure =>
                  show j - ((l : Int) + 1).toNat < j - (l : Int).toNat
                  omega
              · have hd : dupB L j X.n = true := by
                  rw [dupB, any_getD]
                  exact ⟨l, by simp; omega, by rw [take_getD L j l hlj, hY.out]; exact he.out⟩
                have hB := props_no (D := D) (L := L) (j := j) (by omega) (by rw [hbj, hd])
                go_returns
                exact ⟨by rw [← hE.out, hB]; simp, below_on hbw6 hb9⟩
            · have hd : dupB L j X.n = false := by
                cases hdd : dupB L j X.n with
                | false => rfl
                | true =>
                  rw [dupB, any_getD] at hdd
                  obtain ⟨i, hi, hf⟩ := hdd
                  rw [List.length_take] at hi
                  rw [take_getD L j i (by omega), hzl i (by omega)] at hf
                  cases hf
              have hB : badV D L j = false := by rw [hbj, hd]
              replace hB : Hid _ := hB
              clear hzl hd hbj
              go_wp2_with fail
              go_roundw
              case rel => exact ⟨below_on hb06 hbl, j + 1, by omega, rfl, fun k hk => by rcases Nat.lt_succ_iff_lt_or_eq.1 hk with h | rfl; exact hz.out k h; exact hB.out⟩
              case measure =>
                show vn - ((j : Int) + 1).toNat < vn - (j : Int).toNat
                omega
    · have hf := props_yes fun k hk => hz.out k (by omega)
      replace hf : Hid _ := hf
      go_wp2_with fail
      go_returns
      exact ⟨by rw [← hE.out, hf.out]; simp, hbw⟩
end Go.Proofs.YtmioohbailhppaaDoor
