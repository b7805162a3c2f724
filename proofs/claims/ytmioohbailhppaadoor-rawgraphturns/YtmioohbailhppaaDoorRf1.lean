/-
  The document's own search: Type, At, oneType, types.
-/
import Derived.Test.YtmioohbailhppaaDoorChk0
import Derived.Test.YtmioohbailhppaaDoorNr
namespace Go.Proofs.YtmioohbailhppaaDoor
open Go.RowKit Go.Sort
set_option linter.unusedSimpArgs false
set_option linter.unusedVariables false

set_option maxRecDepth 100000 in
theorem refType_any (a : Option Addr) (n c : Nat) (L : List TD) (s : ByteArray) (w : World) (hn : L.length = n) (hm : n ≤ maxLen) (hL : TDsAt w a L) :
    Calls Tryd.prog 32 #[.slice a n c, .string s] w fun e w' => e = .returned (.int .i64 (labAt L s)) ∧ w' = w := by
  unfold maxLen at hm
  unfold labAt
  go_enter Tryd.func32, Tryd.ntmps32
  go_wp2_with fail
  go_loopw [5] (fun v wr => wr = w ∧ ∃ j : Nat, j ≤ n ∧ v = .int .i64 j ∧ ∀ k, k < j → decide ((L.getD k default).n = s) = false) (fun v _ => n - (intOf v).toNat)
  case atStart => exact ⟨rfl, 0, by omega, rfl, by simp⟩
  case round =>
    obtain ⟨hw, j, j1, rfl, hz⟩ := hrel
    rw [hw]
    clear hw
    by_cases hj : j < n
    · rcases hL with rfl | ⟨x, o, rfl, hx⟩
      · simp at hn; omega
      have hxj := hx j (by omega)
      have hS := firstAt_some (fun x : TD => decide (x.n = s)) L j (by omega) hz
      obtain ⟨X, hX⟩ : ∃ X, L.getD j default = X := ⟨_, rfl⟩
      rw [hX] at hxj hS
      replace hX : Hid _ := hX
      have k0 := hxj.c0
      cases he : decide (X.n = s)
      · clear hS
        have hb : (X.n.toList == s.toList) = false := by rw [size_ne]; exact he
        replace he : Hid _ := he
        replace hz : Hid _ := hz
        go_wp2_with fail
        all_goals try (exfalso; simp_all; done)
        exact ⟨⟨trivial, j + 1, by omega, rfl, fun k hk => by rcases Nat.lt_succ_iff_lt_or_eq.1 hk with h | rfl; exact hz.out k h; rw [hX.out]; exact he.out⟩, by show n - ((j : Int) + 1).toNat < n - (j : Int).toNat; omega⟩
      · have hf := hS he
        have hb : (X.n.toList == s.toList) = true := by rw [size_ne]; exact he
        clear hS
        replace he : Hid _ := he
        replace hz : Hid _ := hz
        replace hf : Hid _ := hf
        go_wp2_with fail
        all_goals try (exfalso; simp_all; done)
        go_returns
        exact ⟨by rw [hf.out]; simp, rfl⟩
    · have hf := firstAt_none (fun x : TD => decide (x.n = s)) L fun i hi => hz i (by omega)
      replace hf : Hid _ := hf
      replace hz : Hid _ := hz
      go_wp2_with fail
      go_returns
      exact ⟨by rw [hf.out]; simp, rfl⟩
set_option maxRecDepth 100000 in
theorem refAt_any (a : Option Addr) (n c : Nat) (L : List ND) (z : Int) (w : World) (hn : L.length = n) (hm : n ≤ maxLen) (hL : NDsAt w a L) :
    Calls Tryd.prog 45 #[.slice a n c, .int .i64 z] w fun e w' => e = .returned (.int .i64 (firstAt (fun x => decide (x.id = z)) L)) ∧ w' = w := by
  unfold maxLen at hm
  go_enter Tryd.func45, Tryd.ntmps45
  go_wp2_with fail
  go_loopw [5] (fun v wr => wr = w ∧ ∃ j : Nat, j ≤ n ∧ v = .int .i64 j ∧ ∀ k, k < j → decide ((L.getD k default).id = z) = false) (fun v _ => n - (intOf v).toNat)
  case atStart => exact ⟨rfl, 0, by omega, rfl, by simp⟩
  case round =>
    obtain ⟨hw, j, j1, rfl, hz⟩ := hrel
    rw [hw]
    clear hw
    by_cases hj : j < n
    · rcases hL with rfl | ⟨x, o, rfl, hx⟩
      · simp at hn; omega
      have hxj := hx j (by omega)
      have hS := firstAt_some (fun x : ND => decide (x.id = z)) L j (by omega) hz
      obtain ⟨X, hX⟩ : ∃ X, L.getD j default = X := ⟨_, rfl⟩
      rw [hX] at hxj hS
      replace hX : Hid _ := hX
      have k0 := hxj.c0
      cases he : decide (X.id = z)
      · clear hS
        have hb : (X.id == z) = false := by simpa using he
        replace he : Hid _ := he
        replace hz : Hid _ := hz
        go_wp2_with fail
        all_goals try (exfalso; simp_all; done)
        exact ⟨⟨trivial, j + 1, by omega, rfl, fun k hk => by rcases Nat.lt_succ_iff_lt_or_eq.1 hk with h | rfl; exact hz.out k h; rw [hX.out]; exact he.out⟩, by show n - ((j : Int) + 1).toNat < n - (j : Int).toNat; omega⟩
      · have hf := hS he
        have hb : (X.id == z) = true := by simpa using he
        clear hS
        replace he : Hid _ := he
        replace hz : Hid _ := hz
        replace hf : Hid _ := hf
        go_wp2_with fail
        all_goals try (exfalso; simp_all; done)
        go_returns
        exact ⟨by rw [hf.out]; simp, rfl⟩
    · have hf := firstAt_none (fun x : ND => decide (x.id = z)) L fun i hi => hz i (by omega)
      replace hf : Hid _ := hf
      replace hz : Hid _ := hz
      go_wp2_with fail
      go_returns
      exact ⟨by rw [hf.out]; simp, rfl⟩

set_option maxRecDepth 100000 in
set_option maxHeartbeats 4000000 in
theorem oneType_any (a : Option Addr) (n c : Nat) (L : List TD) (i : Nat) (w : World) (hn : L.length = n) (hm : n ≤ maxLen) (hL : TDsAt w a L) (hi : i < n) (hT : Tabs w) :
    Calls Tryd.prog 43 #[.slice a n c, .int .i64 i] w fun e w' => e = .returned (.int .i64 (typeErr L i)) ∧ Below w.heap.size w w' := by
  unfold maxLen at hm
  rcases hL with rfl | ⟨x, o, rfl, hx⟩
  · simp at hn; omega
  have hxi := hx i (by omega)
  unfold typeErr
  by_cases h64 : 64 ≤ i
  · rw [if_pos h64]
    go_enter Tryd.func43, Tryd.ntmps43
    go_wp2_with fail
    all_goals first | (exfalso; omega) | (go_returns; exact ⟨rfl, by go_grown⟩)
  rw [if_neg h64]
  obtain ⟨X, hX⟩ : ∃ X, L.getD i default = X := ⟨_, rfl⟩
  rw [hX] at hxi ⊢
  clear hX
  obtain ⟨Xn, Xp, Xl, Xc, Xps⟩ := X
  simp only at hxi ⊢
  obtain ⟨k0, k1, sz, ln, lc, lm, hps⟩ := hxi
  simp only at k0 k1 sz ln lc lm hps
  unfold maxLen at lm
  have hN := fun w h => refName_any Xn w sz h
  cases hnm : nameB Xn
  · rw [if_pos rfl]
    rw [hnm] at hN
    replace hN : Hid _ := hN
    go_enter Tryd.func43, Tryd.ntmps43
    go_wp2_with (go_at_call 10; refine Calls.mono (hN.out _ hT) ?_; rintro e w1 ⟨rfl, hb1⟩)
    all_goals first | (exfalso; omega) | (go_returns; exact ⟨rfl, hb1⟩)
  rw [if_neg (by simp)]
  rw [hnm] at hN
  replace hN : Hid _ := hN
  generalize hE : (if 0 ≤ firstAt (fun x => decide (x.n = Xn)) (L.take i) then (42 : Int) else if 32 < Xps.length then 2 else if anyBad Xps = true then 43 else 0) = E
  replace hE : Hid _ := hE
  go_enter Tryd.func43, Tryd.ntmps43
  go_wp2_with (go_at_call 10; refine Calls.mono (hN.out _ hT) ?_; rintro e w1 ⟨rfl, hb1⟩)
  all_goals try (exfalso; omega)
  clear hN
  replace k0 := (hb1.cell (World.block_lt_of_cell? _ _ k0)).trans k0
  replace k1 := (hb1.cell (World.block_lt_of_cell? _ _ k1)).trans k1
  go_loopw [6] (fun v wr => Below w1.heap.size w1 wr ∧ ∃ j : Nat, j ≤ i ∧ v = .int .i64 j ∧ ∀ k, k < j → decide ((L.getD k default).n = Xn) = false) (fun v _ => i - (intOf v).toNat)
  case atStart => exact ⟨Below.refl _ _, 0, by omega, rfl, by simp⟩
  case round =>
    obtain ⟨hb, j, j1, rfl, hz⟩ := hrel
    have g0 := (hb.cell (World.block_lt_of_cell? _ _ k0)).trans k0
    by_cases hj : j < i
    · have hxj := ((hx j (by omega)).below (below_on hb1 hb)).c0
      obtain ⟨Y, hY⟩ : ∃ Y, L.getD j default = Y := ⟨_, rfl⟩
      rw [hY] at hxj
      have e0 := cell_regrown g0
      have e1 := cell_regrown hxj
      have hji : (j : Int) < (n : Int) := by omega
      have hin : (i : Int) < (n : Int) := by omega
      cases he : decide (Y.n = Xn)
      all_goals
        have hbe : (Y.n.toList == Xn.toList) = decide (Y.n = Xn) := size_ne
        rw [he] at hbe
        replace hz : Hid _ := hz
        replace hY : Hid _ := hY
        replace he : Hid _ := he
        clear hx
        go_wp2_with fail
        refine wp_region_quiet_below (by kernel_rfl) (by kernel_rfl) ?_
        repeat (first | go_big_quiet_step (fail) | quiet_step (fail))
        refine wpQuiet_nil ?_
        intro _ hw'
        obtain ⟨⟨dq, osq⟩, hw''⟩ := hw'
        subst hw''
        have hb5 := below_on hb (below_regrown wr dq osq)
        clear e0 e1
        generalize grow (redrawn wr dq) osq = w3 at hb5 ⊢
        go_wp2_with fail
        all_goals try (exfalso; simp_all; done)
      · go_roundw
        case rel => exact ⟨hb5, j + 1, by omega, rfl, fun k hk => by rcases Nat.lt_succ_iff_lt_or_eq.1 hk with h | rfl; exact hz.out k h; rw [hY.out]; exact he.out⟩
        case measure =>
          show i - ((j : Int) + 1).toNat < i - (j : Int).toNat
          omega
      · have hf := firstAt_some (fun x : TD => decide (x.n = Xn)) (L.take i) j (by simp; omega) (fun k hk => by rw [take_getD L i k (by omega)]; exact hz.out k hk) (by rw [take_getD L i j hj, hY.out]; exact he.out)
        go_returns
        exact ⟨by rw [← hE.out, hf, if_pos (by omega)]; simp, below_on hb1 hb5⟩
    · have hf := firstAt_none (fun x : TD => decide (x.n = Xn)) (L.take i) (fun k hk => by rw [List.length_take] at hk; rw [take_getD L i k (by omega)]; exact hz k (by omega))
      have hE2 := hE.out
      rw [hf, if_neg (by decide)] at hE2
      have hE3 := hE2
      clear hE hE2 hf hz hx k0 g0
      have g1 := (hb.cell (World.block_lt_of_cell? _ _ k1)).trans k1
      by_cases hl : 32 < Xps.length
      · rw [if_pos hl] at hE3
        subst hE3
        go_wp2_with fail
        all_goals first | (exfalso; omega) | (go_returns; exact ⟨rfl, below_on hb1 hb⟩)
      rw [if_neg hl] at hE3
      replace hE3 : Hid _ := hE3
      go_wp2_with fail
      all_goals try (exfalso; omega)
      have hbq := below_on hb1 hb
      clear k1 g1 hb hb1
      generalize wr = w4 at hbq ⊢
      go_loopw [8] (fun v wr => Below w4.heap.size w4 wr ∧ ∃ j : Nat, j ≤ Xl ∧ v = .int .i64 j ∧ Hid (∀ k, k < j → badP Xps k = false)) (fun v _ => Xl - (intOf v).toNat)
      case atStart => exact ⟨Below.refl _ _, 0, by omega, rfl, fun k hk => by omega⟩
      case round =>
        obtain ⟨hb, j, j1, rfl, hz⟩ := hrel
        have hbw := below_on hbq hb
        by_cases hj : j < Xl
        · have hpw := hps.below hbw
          rcases hps with h0 | ⟨y, q, rfl, _⟩
          · rw [h0] at ln; simp at ln; omega
          rcases hpw with h0 | ⟨y', q', hyq, hyy⟩
          · rw [h0] at ln; simp at ln; omega
          cases hyq
          have hyj := hyy j (by omega)
          have hbj : badP Xps j = (!nameB (Xps.getD j default).n || decide (0 ≤ firstAt (fun x => decide (x.n = (Xps.getD j default).n)) (Xps.take j)) || !kindB (Xps.getD j default).k) := rfl
          obtain ⟨P, hP⟩ : ∃ P, Xps.getD j default = P := ⟨_, rfl⟩
          rw [hP] at hyj hbj
          obtain ⟨m0, m1, msz⟩ := hyj
          have hN := fun w h => refName_any P.n w msz h
          have hbad := anyBad_yes Xps j (by omega)
          have hTw := hT.below hbw
          have hkk : kindB P.k = true ↔ (P.k = 1 ∨ P.k = 2 ∨ P.k = 3) := by simp [kindB, or_assoc]
          cases hnm2 : nameB P.n
          · have hB : Hid _ := hbad (by rw [hbj, hnm2]; rfl)
            rw [hnm2] at hN
            replace hN : Hid _ := hN
            clear hbj hbad hyy
            go_wp2_with (go_at_call 10; refine Calls.mono (hN.out _ hTw) ?_; rintro e w5 ⟨rfl, hb5⟩)
            go_returns
            exact ⟨by rw [← hE3.out, hB.out]; simp, below_on hbw hb5⟩
          rw [hnm2] at hN
          replace hN : Hid _ := hN
          cases hkb : kindB P.k
          · have hB : Hid _ := hbad (by rw [hbj, hkb]; simp)
            rw [hkb] at hkk
            simp only [reduceCtorEq, false_iff] at hkk
            have hkr : P.k < 1 ∨ ¬ P.k < 1 ∧ 3 < P.k := by omega
            clear hbj hbad hyy hkk
            rcases hkr with hkr | ⟨hkr, hkr2⟩
            all_goals
              go_wp2_with (go_at_call 10; refine Calls.mono (hN.out _ hTw) ?_; rintro e w5 ⟨rfl, hb5⟩; replace m1 := (hb5.cell (World.block_lt_of_cell? _ _ m1)).trans m1)
              all_goals first | (exfalso; omega) | (go_returns; exact ⟨by rw [← hE3.out, hB.out]; simp, below_on hbw hb5⟩)
          · rw [hkb] at hkk
            simp only [true_iff] at hkk
            have hr1 : ¬ P.k < 1 := by omega
            have hr2 : ¬ 3 < P.k := by omega
            rw [hnm2, hkb] at hbj
            simp only [Bool.not_true, Bool.false_or, Bool.or_false] at hbj
            replace hP : Hid _ := hP
            clear hkk
            go_wp2_with (go_at_call 10; refine Calls.mono (hN.out _ hTw) ?_; rintro e w5 ⟨rfl, hb5⟩; replace m1 := (hb5.cell (World.block_lt_of_cell? _ _ m1)).trans m1)
            all_goals try (exfalso; omega)
            have hbw5 := below_on hbw hb5
            replace m0 := (hb5.cell (World.block_lt_of_cell? _ _ m0)).trans m0
            go_loopw [9] (fun v wr => Below w5.heap.size w5 wr ∧ ∃ l : Nat, l ≤ j ∧ v = .int .i64 l ∧ ∀ k, k < l → decide ((Xps.getD k default).n = P.n) = false) (fun v _ => j - (intOf v).toNat)
            case atStart => exact ⟨Below.refl _ _, 0, by omega, rfl, by simp⟩
            case round =>
              obtain ⟨hbl, l, l1, rfl, hzl⟩ := hrel
              have g0 := (hbl.cell (World.block_lt_of_cell? _ _ m0)).trans m0
              by_cases hlj : l < j
              · have hxl := ((hyy l (by omega)).below (below_on hb5 hbl)).c0
                obtain ⟨Y, hY⟩ : ∃ Y, Xps.getD l default = Y := ⟨_, rfl⟩
                rw [hY] at hxl
                have e0 := cell_regrown g0
                have e1 := cell_regrown hxl
                have hji : (l : Int) < (Xl : Int) := by omega
                have hin : (j : Int) < (Xl : Int) := by omega
                cases he : decide (Y.n = P.n)
                all_goals
                  have hbe : (Y.n.toList == P.n.toList) = decide (Y.n = P.n) := size_ne
                  rw [he] at hbe
                  replace hzl : Hid _ := hzl
                  replace hY : Hid _ := hY
                  replace he : Hid _ := he
                  clear hyy
                  go_wp2_with fail
                  refine wp_region_quiet_below (by kernel_rfl) (by kernel_rfl) ?_
                  repeat (first | go_big_quiet_step (fail) | quiet_step (fail))
                  refine wpQuiet_nil ?_
                  intro _ hw'
                  obtain ⟨⟨dq, osq⟩, hw''⟩ := hw'
                  subst hw''
                  have hb6 := below_on hbl (below_regrown wr dq osq)
                  clear e0 e1
                  generalize grow (redrawn wr dq) osq = w6 at hb6 ⊢
                  go_wp2_with fail
                  all_goals try (exfalso; simp_all; done)
                · go_roundw
                  case rel => exact ⟨hb6, l + 1, by omega, rfl, fun k hk => by rcases Nat.lt_succ_iff_lt_or_eq.1 hk with h | rfl; exact hzl.out k h; rw [hY.out]; exact he.out⟩
                  case measure =>
                    show j - ((l : Int) + 1).toNat < j - (l : Int).toNat
                    omega
                · have hf := firstAt_some (fun x : PD => decide (x.n = P.n)) (Xps.take j) l (by simp; omega) (fun k hk => by rw [take_getD Xps j k (by omega)]; exact hzl.out k hk) (by rw [take_getD Xps j l hlj, hY.out]; exact he.out)
                  have hB := hbad (by rw [hbj, hf]; simp)
                  go_returns
                  exact ⟨by rw [← hE3.out, hB]; simp, below_on hbw5 hb6⟩
              · have hf := firstAt_none (fun x : PD => decide (x.n = P.n)) (Xps.take j) (fun k hk => by rw [List.length_take] at hk; rw [take_getD Xps j k (by omega)]; exact hzl k (by omega))
                have hB : badP Xps j = false := by rw [hbj, hf]; rfl
                replace hB : Hid _ := hB
                clear hzl hf hyy hbad hbj
                go_wp2_with fail
                go_roundw
                case rel => exact ⟨below_on (below_on hb hb5) hbl, j + 1, by omega, rfl, fun k hk => by rcases Nat.lt_succ_iff_lt_or_eq.1 hk with h | rfl; exact hz.out k h; exact hB.out⟩
                case measure =>
                  show Xl - ((j : Int) + 1).toNat < Xl - (j : Int).toNat
                  omega
        · have hf := anyBad_no Xps fun k hk => hz.out k (by omega)
          replace hf : Hid _ := hf
          go_wp2_with fail
          go_returns
          exact ⟨by rw [← hE3.out, hf.out]; simp, hbw⟩
end Go.Proofs.YtmioohbailhppaaDoor
