/-
  Of, of any list.
-/
import Derived.Test.YtomhgaihmdjdbaaDoorOfa
import Derived.Test.YtomhgaihmdjdbaaDoorOfh
namespace Go.Proofs.YtomhgaihmdjdbaaDoor
open Go.RowKit
set_option linter.unusedSimpArgs false
set_option linter.unusedVariables false

theorem ValAt.lt {w : World} {g o : Nat} {x : VV} (h : ValAt w g o x) : g < w.heap.size := World.block_lt_of_cell? w _ h.c0
set_option maxRecDepth 100000 in
set_option maxHeartbeats 2000000 in
theorem Of_any (kc : Int) (h1 : 1 ≤ kc) (h6 : kc ≤ 6) (a : Option Addr) (n c : Nat) (D : Nat → VV) (w : World) (hv : ValsAt w a n D) (hT : Tabs w) (hn : n * 64 ≤ 140737488351232) (hH : ∀ j, j < n → allT kc D j = true → rgtV (D j) = true → (foldC kc D j).Hp.length + (D j).l < 10000000000000) :
    Calls Tryd.prog 13 #[.int .i64 kc, .slice a n c] w fun e w' => Below w.heap.size w w' ∧ (allT kc D n = true → ∃ x C, e = .returned (.tuple #[.pointer (some ⟨x, 0, none⟩), .int .i64 0]) ∧ ColAt w' w.heap.size x C ∧ cnt C = foldC kc D n) ∧ (allT kc D n = false → e = .returned (.tuple #[.pointer none, .int .i64 31])) := by
  have hN := New_yes kc w h1 h6
  replace hN : Hid _ := hN
  have hv0 := hv
  replace hv : Hid _ := hv
  replace hT : Hid _ := hT
  replace hH : Hid _ := hH
  clear hv0
  go_enter Tryd.func13, Tryd.ntmps13
  go_wp2_with (go_at_call 11; refine Calls.mono hN.out ?_; rintro e w1 ⟨rfl, hV1, g1, z1⟩)
  have hC1 := col_new hV1 (Nat.le_refl w.heap.size)
  replace hC1 : Hid _ := hC1
  clear hV1 hN
  go_loopw [16] (fun i wr => ∃ j : Nat, j ≤ n ∧ i = .int .i64 j ∧ Below w.heap.size w wr ∧ Hid (∃ C, ColAt wr w.heap.size w.heap.size C ∧ cnt C = foldC kc D j) ∧ Hid (allT kc D j = true)) (fun i _ => n - (intOf i).toNat)
  case atStart => exact ⟨0, by omega, rfl, g1, ⟨col0 kc, hC1.out, rfl⟩, rfl⟩
  case round =>
    obtain ⟨j, j1, rfl, hb, HC, HA⟩ := hrel
    have hszr := hb.size
    by_cases hj : j < n
    · obtain ⟨C, hC, hcn⟩ := HC.out
      have ek : C.k = kc := by have := congrArg Cnt.k hcn; rw [fold_k] at this; exact this
      have eM : C.M.length = j := by have := congrArg (fun q => q.M.length) hcn; simp only [fold_M] at this; exact this
      have eX : C.X.length ≤ j := by have this : (cnt C).X.length = (foldC kc D j).X.length := congrArg (fun q => q.X.length) hcn; have h2 := fold_X kc D j; show (cnt C).X.length ≤ j; omega
      have eL : C.L.length ≤ j + 1 := by have this : (cnt C).L.length = (foldC kc D j).L.length := congrArg (fun q => q.L.length) hcn; have h2 := fold_L kc D j; show (cnt C).L.length ≤ j + 1; omega
      have eH : rgtV (D j) = true → C.Hp.length + (D j).l < 10000000000000 := fun hr => by have h2 := hH.out j hj HA.out hr; have this : (cnt C).Hp.length = (foldC kc D j).Hp.length := congrArg (fun q => q.Hp.length) hcn; show (cnt C).Hp.length + (D j).l < _; omega
      obtain ⟨g0, off0, e0, va0⟩ := ValsAt.at hv.out j hj
      obtain ⟨g, off, rfl, va⟩ := ValsAt.at (ValsAt.below hv.out hb) j hj
      cases e0
      have hpl : ∀ gp op, (D j).p = some ⟨gp, op, none⟩ → (D j).z ≠ [] → ¬ Foot w.heap.size C gp := fun gp op e hz hf => by
        obtain ⟨b', o', e', hc'⟩ := va0.pth.num 0 (by cases hzz : (D j).z; exact absurd hzz hz; simp)
        rw [e] at e'
        cases e'
        have h3 := World.block_lt_of_cell? w _ hc'
        obtain ⟨i, hi⟩ := hf
        have h4 := hC.lo i _ hi
        simp only at h3
        omega
      have hA := fun w' (q : Below wr.heap.size wr w') => Append_any w.heap.size w.heap.size C (D j) w' (hC.below q) (Nat.le_trans hszr q.size) va.ln (va.pth.below q) va.sz (Tabs.below (Tabs.below hT.out hb) q) hpl (by omega) (by omega) eH (by omega)
      have HN : Hid (∀ w' C', ColAt w' w.heap.size w.heap.size C' → Behind C C' (D j).k (D j).z (numV C (D j)) (textsV C (D j)) → ∃ C, ColAt w' w.heap.size w.heap.size C ∧ cnt C = foldC kc D (j + 1)) := fun w' C' q1 q2 => ⟨C', q1, by rw [step_of q2, hcn]; rfl⟩
      have HO : Hid (∀ w0 w', Below wr.heap.size wr w0 → Only (Foot w.heap.size C) w0 w' → Below w.heap.size w w') := fun w0 w' q0 q => (hb.trans (q0.mono hszr)).trans (q.below (Nat.le_trans hszr q0.size) (fun b hf => by obtain ⟨i, hi⟩ := hf; exact hC.lo i b hi))
      have HY : Hid (takesV kc (D j) = true → allT kc D (j + 1) = true) := fun h => by simp [allT, show allT kc D j = true from HA.out, h]
      have HZ : Hid (takesV kc (D j) = false → allT kc D n = false) := fun h => allT_no kc D (j + 1) (by simp [allT, h]) n (by omega)
      rw [ek] at hA
      obtain ⟨c0, c1, c2, c3, c4, -, -, -⟩ := va
      replace hA : Hid _ := hA
      clear hpl va0 eH hcn hC HC
      cases ht : takesV kc (D j) with
      | true =>
        have HA2 : Hid _ := fun w' q => (hA.out w' q).mono fun e w'' h => h.1 ht
        have hY := HY.out ht
        clear hA ht HZ HY
        replace hY : Hid _ := hY
        generalize (D j).k = dk at *
        generalize (D j).b = db at *
        generalize (D j).n = dn at *
        generalize (D j).s = ds at *
        generalize (D j).p = dp at *
        generalize (D j).l = dl at *
        generalize (D j).c = dc at *
        go_wp2_with (go_at_call 16; refine Calls.mono (HA2.out _ (below_new _ _)) ?_; rintro e w2 ⟨rfl, C', q1, q2, q3, -⟩)
        exact ⟨⟨j + 1, by omega, by first | go_num | (congr 1; omega), HO.out _ _ (below_new _ _) q3, HN.out _ _ q1 q2, hY⟩, by simp [intOf]; omega⟩
      | false =>
        have HA2 : Hid _ := fun w' q => (hA.out w' q).mono fun e w'' h => h.2 ht
        have hZ := HZ.out ht
        clear hA ht HZ HY HN HO
        replace hZ : Hid _ := hZ
        generalize (D j).k = dk at *
        generalize (D j).b = db at *
        generalize (D j).n = dn at *
        generalize (D j).s = ds at *
        generalize (D j).p = dp at *
        generalize (D j).l = dl at *
        generalize (D j).c = dc at *
        go_wp2_with (go_at_call 16; refine Calls.mono (HA2.out _ (below_new _ _)) ?_; rintro e w2 ⟨rfl, q1⟩)
        go_returns
        refine ⟨below_on (below_on hb (below_new _ _)) q1, fun h => ?_, fun _ => rfl⟩
        rw [hZ.out] at h
        cases h
    · obtain rfl : j = n := by omega
      obtain ⟨C, hC, hcn⟩ := HC.out
      clear HC hv hT hH
      replace hC : Hid _ := hC
      replace hcn : Hid _ := hcn
      go_wp2_with fail
      go_returns
      refine ⟨hb, fun _ => ⟨_, C, rfl, hC.out, hcn.out⟩, fun h => ?_⟩
      rw [HA.out] at h
      cases h
end Go.Proofs.YtomhgaihmdjdbaaDoor
