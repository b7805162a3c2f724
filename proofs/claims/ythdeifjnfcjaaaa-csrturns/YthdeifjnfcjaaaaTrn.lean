/-
  CsrTurns: its own walk.
-/
import Derived.Test.YthdeifjnfcjaaaaTr0
import Derived.Deep.RegionWith
namespace Go.Proofs.Ythdeifjnfcjaaaa
open Go.RowKit Go.Sort
set_option linter.unusedSimpArgs false
set_option linter.unusedVariables false

theorem sameB_self (A : List Int) : sameB A A = true := by simp [sameB]
theorem rem_nat (u n : Nat) : (u : Int).tmod (n : Int) = ((u % n : Nat) : Int) ∧ (u : Int) % (n : Int) = ((u % n : Nat) : Int) :=
  ⟨by rw [Int.tmod_eq_emod_of_nonneg (by omega)]; rfl, rfl⟩
theorem news_one {w : World} {b : Nat} {X : IL} (h : w.heap[b]? = some (.cells #[.slice X.a X.l X.c] 24)) : NewsAt w 1 (.slice (some ⟨b, 0, none⟩) 1 1) 1 (rowI [X]) := by
  refine .inr ⟨_, _, rfl, rfl, fun j u hu => ?_⟩
  have hj : j = 0 := by have := (List.getElem?_eq_some_iff.1 hu).1; simp [rowI] at this; omega
  subst hj
  simp [rowI] at hu
  subst hu
  simp [World.cell?, h, add_plain]
theorem one_at (w : World) (X : IL) (hX : ILok w X) : ILsAt (w.alloc (.cells #[.slice X.a X.l X.c] 24)) (some ⟨w.heap.size, 0, none⟩) [X] := by
  refine .inr ⟨w.heap.size, 0, rfl, fun i hi => ?_⟩
  have hi' : i = 0 := by simp at hi; exact hi
  subst hi'
  exact ⟨by simp only [World.cell?, heap_alloc_new]; simp, hX.below (below_new _ _)⟩
/-- Meet of lists that have something in common with lists of which it is known. -/
theorem Meet_known (a : Option Addr) (n c : Nat) (L : List IL) (w : World) (A : List Int) (hn : L.length = n) (hL : ILsAt w a L) (hX : n * 24 ≤ 140737488355328) (h0 : 0 < n) (hr : ∀ x ∈ L, Ris x.z) (hA : IsMet (zl L) A) :
    Calls Try.prog 7 #[.slice a n c] w fun e w' => (∃ p d, e = .returned (.tuple #[.slice p A.length d, .int .i64 0]) ∧ PathAt w' p A) ∧ Below w.heap.size w w' :=
  (Meet_any a n c L w hn hL hX).mono fun e w' ⟨p, d, M, he, hp, hl, h1, h2, hb⟩ => by
    have hE : metE L = 0 := metE_ok (fun e => by rw [e] at hn; simp at hn; omega) (allRis_mem.2 hr)
    have hM := (h1 hE).one hA
    subst hM
    rw [hE] at he
    exact ⟨⟨p, d, he, hp⟩, hb⟩

set_option maxRecDepth 100000 in
set_option maxHeartbeats 8000000 in
theorem Turns_walk (a : Option Addr) (n c : Nat) (L : List IL) (u : Nat) (w : World) (hn : L.length = n) (hL : ILsAt w a L) (hX : n * 24 ≤ 140737488351232) (hlc : n ≤ c) (hcm : c ≤ maxLen) (hu : u < 256) :
    Calls Try.prog 4 #[.slice a n c, .int .u8 u] w fun e w' => e = .returned (.bool true) ∧ Below w.heap.size w w' := by
  unfold maxLen at hcm
  have hH := head_any w
  have hM := fun w' (hb : Below w.heap.size w w') => Meet_any a n c L w' hn (hL.below hb) (by omega)
  replace hH : Hid _ := hH
  replace hM : Hid _ := hM
  by_cases hE : metE L = 0
  case neg =>
    have hEb : (metE L != 0) = true := by simpa using hE
    have hE' : (metE L == 0) = false := by simpa using hE
    replace hE : Hid _ := hE
    clear hL
    go_enter Try.func4, Try.ntmps4
    go_wp2_with (first
      | (go_at_call 6; refine Calls.mono hH.out ?_; rintro e w1 ⟨rfl, hb1⟩)
      | (go_at_call 7; refine Calls.mono (hM.out _ hb1) ?_; rintro e w2 ⟨p, c2, A, rfl, -, -, -, hA2, hb2⟩; obtain rfl := hA2 hE.out; replace hb2 := below_on hb1 hb2; clear hA2))
    go_returns
    exact ⟨by simp, hb2⟩
  obtain ⟨hne, hris⟩ := metE_zero hE
  have h0 : 0 < L.length := List.length_pos_iff.2 hne
  obtain ⟨g0, off0, rfl, -, -⟩ := hL.at 0 h0
  have hk : u % n < n := Nat.mod_lt _ (by omega)
  obtain ⟨hrem, hrem2⟩ := rem_nat u n
  generalize u % n = k at hk hrem hrem2
  have hn0' : ¬ (n : Int) = 0 := by omega
  have hk0 : (0 : Int) ≤ (k : Int) := by omega
  have hk1 : (k : Int) < (n : Int) := by omega
  have hwk : IntKind.i64.wrap (k : Int) = (k : Int) := by rw [IntKind.wrap_i64]; omega
  have hwu : IntKind.i64.wrap (u : Int) = (u : Int) := by rw [IntKind.wrap_i64]; omega
  have hwt : IntKind.i64.wrap ((u : Int).tmod (n : Int)) = (k : Int) := by rw [hrem]; exact hwk
  have hck : ¬ c = k := by omega
  have hk2 : (k : Int) ≤ (n : Int) := by omega
  have hnc : (n : Int) ≤ (c : Int) := by omega
  have hkc : (k : Int) ≤ (c : Int) := by omega
  have hk3 : k ≤ n := by omega
  have hk4 : k ≤ c := by omega
  have hris' := allRis_mem.1 hris
  have hok := fun w' (hb : Below w.heap.size w w') x (hx : x ∈ L) => (show ILok w' x by
    obtain ⟨j, hj, e⟩ := mem_getD hx
    rw [← e]
    exact (hL.oks j hj).below hb)
  have hp1 := fun w' (hb : Below w.heap.size w w') => (hL.below hb).part k (n - k) (c - k) (by omega)
  have hp2 := fun w' (hb : Below w.heap.size w w') => (hL.below hb).part 0 k c (by omega)
  rw [List.take_of_length_le (by simp; omega)] at hp1
  rw [List.drop_zero, Nat.add_zero] at hp2
  obtain ⟨g0', off0', e0, cX, hXk⟩ := hL.at k (by omega)
  cases e0
  have hXm := getD_mem (L := L) (j := k) (by omega)
  generalize L.getD k default = X at cX hXm hXk
  obtain ⟨i0, hi0, hz0, hz1, hz2⟩ := info_parts info24
  have hXr := hris' X hXm
  replace hok : Hid _ := hok
  replace hp1 : Hid _ := hp1
  replace hp2 : Hid _ := hp2
  replace hXk : Hid _ := hXk
  replace hris' : Hid _ := hris'
  replace hXr : Hid _ := hXr
  replace hXm : Hid _ := hXm
  replace hn : Hid _ := hn
  clear hL hris hne h0
  go_enter Try.func4, Try.ntmps4
  go_upto_region 6 with (first
    | (go_at_call 6; refine Calls.mono hH.out ?_; rintro e w1 ⟨rfl, hb1⟩)
    | (go_at_call 7; refine Calls.mono (hM.out _ hb1) ?_; rintro e w2 ⟨p, c2, A, rfl, hp, hAl, hA1, -, hb2⟩; rw [hE]; replace hA1 := hA1 hE; replace hb2 := below_on hb1 hb2; replace hp : Hid _ := hp; replace hA1 : Hid _ := hA1; clear hM hH))
  go_cut [9] (fun v9 wx => ∃ g cap, v9 = .slice (some ⟨g, 0, none⟩) n cap ∧ ILsAt wx (some ⟨g, 0, none⟩) (turnL L k) ∧ Below w2.heap.size w2 wx)
  case first =>
    go_region_held3 (fun w' => Below w2.heap.size w2 w')
      (first | exact hB6 | exact hB5 | go_grown)
      (first
        | (refine step_append_any _ (by rfl) _ _ _ (by rfl) w2.heap.size 24 i0 _ 1 24 Try.underlying22 hi0 hz0 hz1 hz2 (by rfl) (by omega) _ 0 0 [] (by rfl) (own_empty 1 (by omega) (heap_alloc_new _ _)) _ (n - k) (rowI (L.drop k)) (by rfl) (hp1.out _ (below_on hb2 (by go_grown))) (rowI_one _) (n - k) (rowI (L.drop k)) (by omega) (by rfl) (by unfold maxLen; omega) (by omega) (by first | (simp; done) | (simp; omega)) ?_; intro g1 cap1 w5 hown1 hgrow1; have hB5 : Below w2.heap.size w2 w5 := below_grown (B := w2.heap.size) (W := w2) (by go_grown) hgrow1 (by omega) (Nat.le_refl _))
        | (refine step_append_any _ (by rfl) _ _ _ (by rfl) w2.heap.size 24 i0 _ 1 24 Try.underlying22 hi0 hz0 hz1 hz2 (by rfl) (by omega) g1 cap1 (n - k) (rowI (L.drop k)) (by rfl) hown1 _ k (rowI (L.take k)) (by rfl) (hp2.out _ (below_on hb2 hB5)) (rowI_one _) n (rowI (turnL L k)) (by omega) (by simp [rowI, turnL]) (by unfold maxLen; omega) (by omega) hB5.size ?_; intro g2 cap2 w6 hown2 hgrow2; have hB6 : Below w2.heap.size w2 w6 := below_grown (B := w2.heap.size) (W := w2) hB5 hgrow2 (hown1.lt g1 rfl).1 (Nat.le_refl _)))
    go_wp2_with fail
    go_meet
    case rel => exact ⟨g2, cap2, rfl, own_ils hown2 (by rw [turnL_len, hn.out]) (fun j hj => hok.out w6 (below_on hb2 hB6) _ ((turnL_mem L k _).1 (getD_mem hj))), hB6⟩
  case rest =>
    obtain ⟨g, cap, rfl, hT, hb3⟩ := hcut
    replace hp := PathAt.below hp.out hb3
    replace hb3 := below_on hb2 hb3
    clear hb2 hb1 hp1 hp2
    have hMt := fun w' hL' => Meet_known (some ⟨g, 0, none⟩) n cap (turnL L k) w' A (by rw [turnL_len, hn.out]) hL' (by omega) (by omega) (fun x hx => hris'.out x ((turnL_mem L k x).1 hx)) (met_other hA1.out fun x => (turnL_mem L k x).symm)
    have hMc := hMt _ hT
    replace hp : Hid _ := hp
    replace hT : Hid _ := hT
    replace hMc : Hid _ := hMc
    clear hMt
    go_upto_region 8 with (go_at_call 7; refine Calls.mono hMc.out ?_; rintro e w4 ⟨⟨pB, cB, rfl, hpB⟩, hb4⟩; clear hMc)
    replace hp := PathAt.below hp.out hb4
    replace hT := ILsAt.below hT.out hb4
    replace hb4 := below_on hb3 hb4
    replace cX := (hb4.cell (World.block_lt_of_cell? _ _ cX)).trans cX
    clear hb3
    have hNt := fun w' (hb : Below w4.heap.size w4 w') => (hT.below hb).part 0 n cap (by rw [turnL_len, hn.out]; omega)
    rw [List.drop_zero, List.take_of_length_le (by rw [turnL_len, hn.out]; exact Nat.le_refl _)] at hNt
    have hS : ∀ w', Below w4.heap.size w4 w' → w'.cell? ⟨g0, off0 + k, none⟩ = some (.slice X.a X.l X.c) := fun w' hb => (hb.cell (World.block_lt_of_cell? _ _ cX)).trans cX
    have hMm := fun w' g' cap' (hb : Below w4.heap.size w4 w') (ho : w'.ownsRow w4.heap.size 24 1 (.slice (some ⟨g', 0, none⟩) (n + 1) cap') (n + 1) (rowI (turnL L k ++ [X]))) => Meet_known (some ⟨g', 0, none⟩) (n + 1) cap' (turnL L k ++ [X]) w' A (by rw [List.length_append, turnL_len, hn.out]; rfl)
      (own_ils ho (by rw [List.length_append, turnL_len, hn.out]; rfl) (fun j hj => hok.out w' (below_on hb4 hb) _ (by
        rcases List.mem_append.1 (getD_mem hj) with h | h
        · exact (turnL_mem L k _).1 h
        · rw [List.mem_singleton.1 h]; exact hXm.out))) (by omega) (by omega) (fun x hx => by
        rcases List.mem_append.1 hx with h | h
        · exact hris'.out x ((turnL_mem L k x).1 h)
        · rw [List.mem_singleton.1 h]; exact hXr.out) (met_other hA1.out fun x => by
        rw [List.mem_append, turnL_mem, List.mem_singleton]
        exact ⟨.inl, fun h => h.elim id fun e => by rw [e]; exact hXm.out⟩)
    replace hp : Hid _ := hp
    replace hpB : Hid _ := hpB
    replace hNt : Hid _ := hNt
    replace hMm : Hid _ := hMm
    replace hS : Hid _ := hS
    clear hT
    go_cut [12, 13] (fun v12 v13 wx => ∃ p' d', v12 = .slice p' A.length d' ∧ v13 = .int .i64 0 ∧ PathAt wx p' A ∧ Below w4.heap.size w4 wx)
    case first =>
      go_region_held3 (fun w' => w'.cell? ⟨g0, off0 + k, none⟩ = some (.slice X.a X.l X.c))
        (first | exact hS.out _ hB7 | exact hS.out _ hB6 | exact hS.out _ (hB5.alloc hB5.size _) | exact hS.out _ hB5 | exact hS.out _ (by go_grown))
        (first
          | (go_at_call 7; refine Calls.mono (hMm.out _ g2 cap2 hB6 hown2) ?_; rintro e w7 ⟨⟨pC, cC, rfl, hpC⟩, hb7⟩; have hB7 := below_on hB6 hb7)
          | (refine step_append_any _ (by rfl) _ _ _ (by rfl) w4.heap.size 24 i0 _ 1 24 Try.underlying22 hi0 hz0 hz1 hz2 (by rfl) (by omega) _ 0 0 [] (by rfl) (own_empty 1 (by omega) (by first | exact heap_alloc_new _ _ | exact heap_alloc2_old _ _ _ | exact heap_alloc2_new _ _ _)) _ n (rowI (turnL L k)) (by rfl) (hNt.out _ (by go_grown)) (rowI_one _) n (rowI (turnL L k)) (by omega) (by rfl) (by unfold maxLen; omega) (by omega) (by first | (simp; done) | (simp; omega)) ?_; intro g1 cap1 w5 hown1 hgrow1; have hB5 : Below w4.heap.size w4 w5 := below_grown (B := w4.heap.size) (W := w4) (by go_grown) hgrow1 (by omega) (Nat.le_refl _))
          | (refine step_append_any _ (by rfl) _ _ _ (by rfl) w4.heap.size 24 i0 _ 1 24 Try.underlying22 hi0 hz0 hz1 hz2 (by rfl) (by omega) g1 cap1 n (rowI (turnL L k)) (by rfl) (by first | exact hown1 | exact hown1.alloc _) _ 1 (rowI [X]) (by rfl) (news_one (by first | exact heap_alloc_new _ _ | exact (hgrow1.block _ (by first | (simp; done) | (simp; omega)) (by first | (simp; done) | (simp; omega))).trans (heap_alloc2_new _ _ _) | exact (hgrow1.block _ (by first | (simp; done) | (simp; omega)) (by first | (simp; done) | (simp; omega))).trans (heap_alloc2_old _ _ _))) (rowI_one _) (n + 1) (rowI (turnL L k ++ [X])) (by omega) (by simp [rowI]) (by unfold maxLen; omega) (by omega) (by first | exact hB5.size | (have := hB5.size; simp; omega)) ?_; intro g2 cap2 w6 hown2 hgrow2; have hB6 : Below w4.heap.size w4 w6 := below_grown (B := w4.heap.size) (W := w4) (by first | exact hB5 | exact hB5.alloc hB5.size _) hgrow2 (hown1.lt g1 rfl).1 (Nat.le_refl _)))
      all_goals
        go_wp2_with fail
        go_meet
        case rel => exact ⟨pC, cC, rfl, rfl, hpC, hB7⟩
    case rest =>
      obtain ⟨pC, cC, rfl, rfl, hpC, hb5⟩ := hcut
      replace hp := PathAt.below hp.out hb5
      replace hpB := PathAt.below hpB.out hb5
      replace cX := (hb5.cell (World.block_lt_of_cell? _ _ cX)).trans cX
      replace hb5 := below_on hb4 hb5
      have hAm : A.length ≤ maxLen := by have := (hok.out w (Below.refl _ _) (L.getD 0 default) (getD_mem (by rw [hn.out]; omega))).lb; unfold maxLen; omega
      have hMo := Meet_known (some ⟨_, 0, none⟩) 1 1 [X] _ X.z rfl (one_at _ X (hok.out _ hb5 X hXm.out)) (by omega) (by omega) (fun x hx => by rw [List.mem_singleton.1 hx]; exact hXr.out) (met_one hXr.out)
      replace hMo : Hid _ := hMo
      replace hp : Hid _ := hp
      replace hpB : Hid _ := hpB
      replace hpC : Hid _ := hpC
      clear hb4 hMm hNt hS
      go_wp2_with fail
      refine Calls.mono hMo.out ?_
      rintro e w6 ⟨⟨pD, cD, rfl, hpD⟩, hb6⟩
      have hb6' := below_on (below_new _ _) hb6
      have cX6 := (hb6'.cell (World.block_lt_of_cell? _ _ cX)).trans cX
      have hp6 := PathAt.below hp.out hb6'
      have hpB6 := PathAt.below hpB.out hb6'
      have hpC6 := PathAt.below hpC.out hb6'
      have hbw := below_on hb5 hb6'
      clear hp hpB hpC cX hb6 hb6' hMo
      have hS1 := same_any p A.length c2 A pB A.length cB A w6 rfl rfl hAm hAm hp6 hpB6
      rw [sameB_self] at hS1
      replace hS1 : Hid _ := hS1
      replace hp6 : Hid _ := hp6
      replace hpC6 : Hid _ := hpC6
      replace hpD : Hid _ := hpD
      clear hpB6
      go_wp2_with fail
      refine Calls.mono hS1.out ?_
      rintro e w7 ⟨rfl, hb7⟩
      have cX7 := (hb7.cell (World.block_lt_of_cell? _ _ cX6)).trans cX6
      have hS2 := same_any p A.length c2 A pC A.length cC A w7 rfl rfl hAm hAm (PathAt.below hp6.out hb7) (PathAt.below hpC6.out hb7)
      rw [sameB_self] at hS2
      have hpD7 := PathAt.below hpD.out hb7
      have hbw7 := below_on hbw hb7
      replace hS2 : Hid _ := hS2
      replace hpD7 : Hid _ := hpD7
      clear hp6 hpC6 hpD cX6 hS1 hb7 hbw
      go_wp2_with fail
      refine Calls.mono hS2.out ?_
      rintro e w8 ⟨rfl, hb8⟩
      have cX8 := (hb8.cell (World.block_lt_of_cell? _ _ cX7)).trans cX7
      have hbw8 := below_on hbw7 hb8
      have hS3 := same_any pD X.z.length cD X.z X.a X.l X.c X.z w8 rfl hXk.out.ln (by rw [hXk.out.ln]; have := hXk.out.lb; unfold maxLen; omega) (by have := hXk.out.lb; unfold maxLen; omega) (PathAt.below hpD7.out hb8) ((hok.out w8 hbw8 X hXm.out).pt)
      rw [sameB_self] at hS3
      replace hS3 : Hid _ := hS3
      clear cX7 hS2 hpD7 hb8 hbw7
      go_wp2_with fail
      refine Calls.mono hS3.out ?_
      rintro e w9 ⟨rfl, hb9⟩
      have hbw9 := below_on hbw8 hb9
      clear hS3 cX8
      go_wp2_with fail
      go_returns
      exact ⟨rfl, hbw9⟩
end Go.Proofs.Ythdeifjnfcjaaaa
