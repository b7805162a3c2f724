/-
  The places of what is true, of the program; whether something is a fault.
-/
import Derived.Test.YtomhgaihmdjdbaaDoorTru
namespace Go.Proofs.YtomhgaihmdjdbaaDoor
open Go.RowKit
set_option linter.unusedSimpArgs false
set_option linter.unusedVariables false

theorem own_below {w w' : World} {base : Nat} {v : Value} {n : Nat} {xs : List Value} {e : TypeId} {size : Nat} (h : w.ownsRow base e size v n xs) (hb : Below w.heap.size w w') : w'.ownsRow base e size v n xs := by
  obtain ⟨h1, h2 | ⟨g, cap, cur, e1, e2, e3, e4⟩⟩ := h
  · exact ⟨h1, .inl h2⟩
  · exact ⟨h1, .inr ⟨g, cap, cur, e1, e2, (hb.block g (Array.getElem?_eq_some_iff.1 e3).1).trans e3, e4⟩⟩
theorem own_mono {w : World} {a b e size : Nat} {v : Value} {n : Nat} {xs : List Value} (h : w.ownsRow b e size v n xs) (hab : a ≤ b) : w.ownsRow a e size v n xs := by
  obtain ⟨h1, h2 | ⟨g, cap, cur, e1, e2, e3⟩⟩ := h
  · exact ⟨h1, .inl h2⟩
  · exact ⟨h1, .inr ⟨g, cap, cur, e1, Nat.le_trans hab e2, e3⟩⟩
theorem cell_one_at (w : World) (x : Value) (t : TypeId) (g : Nat) (hg : g = w.heap.size) : ∀ j u, [x][j]? = some u → (w.alloc (.cells #[x] t)).cell? ((⟨g, 0, none⟩ : Addr).add j) = some u := by
  subst hg
  exact cell_one_new w x t

set_option maxRecDepth 100000 in
set_option maxHeartbeats 2000000 in
theorem True_any (a : Option Addr) (n c : Nat) (D : Nat → VV) (w : World) (hv : ValsAt w a n D) (hn : n * 64 ≤ 140737488351232) :
    Calls Tryd.prog 22 #[.slice a n c] w fun e w' => ∃ v, e = .returned v ∧ w'.ownsRow w.heap.size 3 1 v (trs D n).length (trs D n) ∧ Below w.heap.size w w' := by
  obtain ⟨i0, hi0, hz0, hz1, hz2⟩ := info_parts info3
  replace hv : Hid _ := hv
  go_enter Tryd.func22, Tryd.ntmps22
  go_wp2
  go_loopw [3, 8] (fun x i wr => ∃ j : Nat, j ≤ n ∧ i = .int .i64 j ∧ wr.ownsRow w.heap.size 3 1 x (trs D j).length (trs D j) ∧ Below w.heap.size w wr) (fun _ i _ => n - (intOf i).toNat)
  case atStart => exact ⟨0, by omega, rfl, World.ownsRow_nil _ _ _ _, Below.refl _ _⟩
  case round =>
    obtain ⟨j, j1, rfl, ho, hb⟩ := hrel
    have hszr := hb.size
    have hlen := trs_len D j
    by_cases hj : j < n
    · obtain ⟨g, off, rfl, va⟩ := ValsAt.at (ValsAt.below hv.out hb) j hj
      obtain ⟨c0, c1, c2, c3, c4, -, -, -⟩ := va
      clear hv
      cases hT : isT (D j) with
      | true =>
        have hk : (D j).k = 1 ∧ (D j).b = true := by simpa [isT] using hT
        rw [hk.1] at c0
        rw [hk.2] at c1
        have HT : Hid (trs D (j + 1) = trs D j ++ [.int .i64 (j : Int)]) := trs_yes D j hT
        clear hT hk
        generalize trs D j = xs at *
        generalize (D j).n = dn at *
        generalize (D j).s = ds at *
        generalize (D j).p = dp at *
        generalize (D j).l = dl at *
        generalize (D j).c = dc at *
        go_wp2_with (at_builtin; refine wpList_append_own_at _ rfl _ _ 41 rfl w.heap.size 3 i0 (.int .i64 0) 1 8 Tryd.underlying41 hi0 hz0 hz1 hz2 rfl (by decide) _ _ _ rfl (own_below ho (by go_grown)) ⟨wr.heap.size + 1, 0, none⟩ 1 1 [.int .i64 (j : Int)] rfl rfl (cell_one_at _ _ _ _ (by simp)) (by simp [Value.oneCell']) (by unfold maxLen; omega) (by omega) (by simp; omega) ?_; intro v4 w4 ho4 hg4 hnil4 hloc4)
        have h4 : Below w.heap.size w w4 := by
          refine Below.grown ?_ hg4 ?_ (fun k hk => (ho.lt k hk).1)
          · go_grown
          · simp; omega
        refine ⟨⟨j + 1, by omega, by first | go_num | (congr 1; omega), ?_, h4⟩, by simp [intOf]; omega⟩
        rw [HT.out, List.length_append]
        exact ho4
      | false =>
        have HT : Hid (trs D (j + 1) = trs D j) := trs_no D j hT
        by_cases hk : (D j).k = 1
        · have hb' : (D j).b = false := by simpa [isT, hk] using hT
          rw [hk] at c0
          rw [hb'] at c1
          clear hT hk hb'
          generalize (D j).n = dn at *
          generalize (D j).s = ds at *
          generalize (D j).p = dp at *
          generalize (D j).l = dl at *
          generalize (D j).c = dc at *
          replace ho : Hid _ := ho
          go_wp2_with fail
          refine ⟨⟨j + 1, by omega, by first | go_num | (congr 1; omega), ?_, by go_grown⟩, by simp [intOf]; omega⟩
          rw [HT.out]; exact own_below ho.out (by go_grown)
        · clear hT
          have hk' : ¬ ((D j).k == 1) = true := by simpa using hk
          generalize (D j).k = kk at *
          generalize (D j).b = kb at *
          generalize (D j).n = dn at *
          generalize (D j).s = ds at *
          generalize (D j).p = dp at *
          generalize (D j).l = dl at *
          generalize (D j).c = dc at *
          replace ho : Hid _ := ho
          go_wp2_with fail
          refine ⟨⟨j + 1, by omega, by first | go_num | (congr 1; omega), ?_, by go_grown⟩, by simp [intOf]; omega⟩
          rw [HT.out]; exact own_below ho.out (by go_grown)
    · have ej : j = n := by omega
      subst ej
      clear hv
      replace ho : Hid _ := ho
      go_wp2_with fail
      go_returns
      exact ⟨_, rfl, ho.out, hb⟩

/-- Is one of the first n of Kind Fault? -/
def flt (D : Nat → VV) : Nat → Bool
  | 0 => false
  | n + 1 => flt D n || ((D n).k == 7)
theorem flt_next (D : Nat → VV) (n : Nat) (h : flt D n = false) : flt D (n + 1) = ((D n).k == 7) := by simp [flt, h]
theorem flt_mono (D : Nat → VV) (i : Nat) (h : flt D i = true) : ∀ n, i ≤ n → flt D n = true
  | 0, hi => by obtain rfl : i = 0 := by omega
                exact h
  | n + 1, hi => by
    by_cases e : i = n + 1
    · subst e; exact h
    · have := flt_mono D i h n (by omega)
      simp [flt, this]

set_option maxRecDepth 100000 in
theorem Faults1_any (k : Int) (b : Bool) (n : Int) (s : ByteArray) (p : Option Addr) (l c : Nat) (w : World) :
    Calls Tryd.prog 47 #[.agg #[.int .i64 k, .bool b, .int .i64 n, .string s, .slice p l c]] w fun e w' => e = .returned (.bool (k == 7)) ∧ Below w.heap.size w w' := by
  go_enter Tryd.func47, Tryd.ntmps47
  go_wp2
  go_returns
  exact ⟨by simp, by go_grown⟩

set_option maxRecDepth 100000 in
set_option maxHeartbeats 2000000 in
theorem IndexFunc_any (a : Option Addr) (n c : Nat) (D : Nat → VV) (w : World) (hv : ValsAt w a n D) (hn : n * 64 ≤ 140737488351232) :
    Calls Tryd.prog 62 #[.slice a n c, .func (.func 47) #[] #[]] w fun e w' => ∃ v : Int, e = .returned (.int .i64 v) ∧ (v ≥ 0 ↔ flt D n = true) ∧ Below w.heap.size w w' := by
  replace hv : Hid _ := hv
  go_enter Tryd.func62, Tryd.ntmps62
  go_wp2
  go_loopw [8] (fun i wr => ∃ j : Nat, j ≤ n ∧ i = .int .i64 j ∧ Hid (flt D j = false) ∧ Below w.heap.size w wr) (fun i _ => n - (intOf i).toNat)
  case atStart => exact ⟨0, by omega, rfl, rfl, Below.refl _ _⟩
  case round =>
    obtain ⟨j, j1, rfl, HF, hb⟩ := hrel
    have hszr := hb.size
    by_cases hj : j < n
    · obtain ⟨g, off, rfl, va⟩ := ValsAt.at (ValsAt.below hv.out hb) j hj
      obtain ⟨c0, c1, c2, c3, c4, -, -, -⟩ := va
      clear hv
      have HT : Hid (flt D (j + 1) = ((D j).k == 7)) := flt_next D j HF.out
      have HM : Hid (((D j).k == 7) = true → flt D n = true) := fun h => flt_mono D (j + 1) (HT.out.trans h) n (by omega)
      generalize (D j).k = kk at *
      generalize (D j).b = kb at *
      generalize (D j).n = dn at *
      generalize (D j).s = ds at *
      generalize (D j).p = dp at *
      generalize (D j).l = dl at *
      generalize (D j).c = dc at *
      by_cases h7 : kk = 7
      · subst h7
        go_wp2_with (go_at_call 47; refine (Faults1_any _ _ _ _ _ _ _ _).mono ?_; rintro e w1 ⟨rfl, h1⟩)
        go_returns
        refine ⟨_, rfl, ?_, below_on hb h1⟩
        simp [HM.out rfl]
      · have h7' : (kk == 7) = false := by simpa using h7
        go_wp2_with (go_at_call 47; refine (Faults1_any _ _ _ _ _ _ _ _).mono ?_; rintro e w1 ⟨rfl, h1⟩)
        refine ⟨⟨j + 1, by omega, by first | go_num | (congr 1; omega), HT.out.trans h7', below_on hb h1⟩, by simp [intOf]; omega⟩
    · have ej : j = n := by omega
      subst ej
      clear hv
      go_wp2_with fail
      go_returns
      refine ⟨_, rfl, ?_, hb⟩
      rw [HF.out]
      simp

set_option maxRecDepth 100000 in
theorem Faults_any (a : Option Addr) (n c : Nat) (D : Nat → VV) (w : World) (hv : ValsAt w a n D) (hn : n * 64 ≤ 140737488351232) :
    Calls Tryd.prog 24 #[.slice a n c] w fun e w' => e = .returned (.bool (flt D n)) ∧ Below w.heap.size w w' := by
  have hc : ∀ w, ValsAt w a n D → Calls Tryd.prog 46 #[.slice a n c, .func (.func 47) #[] #[]] w fun e w' => e = .returned (.bool (flt D n)) ∧ Below w.heap.size w w' := fun w hv => by
    have hI := fun w hv => IndexFunc_any a n c D w hv hn
    replace hv : Hid _ := hv
    replace hI : Hid _ := hI
    go_enter Tryd.func46, Tryd.ntmps46
    go_wp2_with (go_at_call 62; refine (hI.out _ hv.out).mono ?_; rintro e w1 ⟨v, rfl, hv1, h1⟩)
    go_returns
    refine ⟨?_, h1⟩
    cases hF : flt D n with
    | true => simp [hv1.2 hF]
    | false =>
      have : ¬ v ≥ 0 := fun h => by rw [hv1.1 h] at hF; cases hF
      simp <;> omega
  replace hc : Hid _ := hc
  replace hv : Hid _ := hv
  go_enter Tryd.func24, Tryd.ntmps24
  go_wp2_with (go_at_call 46; refine (hc.out _ hv.out).mono ?_; rintro e w1 ⟨rfl, h1⟩)
  go_returns
  exact ⟨rfl, h1⟩

set_option maxRecDepth 100000 in
theorem rFaults_any (a : Option Addr) (n c : Nat) (D : Nat → VV) (w : World) (hv : ValsAt w a n D) (hn : n * 64 ≤ 140737488351232) :
    Calls Tryd.prog 25 #[.slice a n c] w fun e w' => e = .returned (.bool (flt D n)) ∧ w' = w := by
  replace hv : Hid _ := hv
  go_enter Tryd.func25, Tryd.ntmps25
  go_wp2
  go_loop [3] (fun i => ∃ j : Nat, j ≤ n ∧ i = .int .i64 j ∧ Hid (flt D j = false)) (fun i => n - (intOf i).toNat)
  case atStart => exact ⟨0, by omega, rfl, rfl⟩
  case round =>
    obtain ⟨j, j1, rfl, HF⟩ := hrel
    by_cases hj : j < n
    · obtain ⟨g, off, rfl, va⟩ := ValsAt.at hv.out j hj
      obtain ⟨c0, -, -, -, -, -, -, -⟩ := va
      clear hv
      have HT : Hid (flt D (j + 1) = ((D j).k == 7)) := flt_next D j HF.out
      have HM : Hid (((D j).k == 7) = true → flt D n = true) := fun h => flt_mono D (j + 1) (HT.out.trans h) n (by omega)
      generalize (D j).k = kk at *
      by_cases h7 : kk = 7
      · subst h7
        go_wp2_with fail
        go_returns
        exact ⟨by simp [HM.out rfl], rfl⟩
      · have h7' : (kk == 7) = false := by simpa using h7
        go_wp2_with fail
        refine ⟨⟨j + 1, by omega, by first | go_num | (congr 1; omega), HT.out.trans h7'⟩, by simp [intOf]; omega⟩
    · have ej : j = n := by omega
      subst ej
      clear hv
      go_wp2_with fail
      go_returns
      exact ⟨by simp [show flt D j = false from HF.out], rfl⟩
end Go.Proofs.YtomhgaihmdjdbaaDoor
