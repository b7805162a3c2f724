/-
  times: in how many lists a number stands.
-/
import Derived.Test.YthdeifjnfcjaaaaHead
namespace Go.Proofs.Ythdeifjnfcjaaaa
open Go.RowKit
set_option linter.unusedSimpArgs false
set_option linter.unusedVariables false

theorem has_zero (Z : List Int) (x : Int) : hasB (Z.take 0) x = false := by simp [hasB]
theorem has_next (Z : List Int) (x : Int) (k : Nat) (hk : k < Z.length) : hasB (Z.take (k + 1)) x = (hasB (Z.take k) x || (Z.getD k 0 == x)) := by
  unfold hasB
  rw [List.take_succ_eq_append_getElem hk]
  have : Z.getD k 0 = Z[k] := by simp [List.getD, hk]
  rw [this, Bool.eq_iff_iff, Bool.or_eq_true, List.contains_iff_mem, List.contains_iff_mem, List.mem_append, List.mem_singleton, beq_iff_eq]
  exact or_congr Iff.rfl eq_comm
theorem has_all (Z : List Int) (x : Int) (k : Nat) (hk : Z.length ≤ k) : hasB (Z.take k) x = hasB Z x := by rw [List.take_of_length_le hk]
theorem tim_next (L : List IL) (x : Int) (k : Nat) (hk : k < L.length) : timesN ((zl L).take (k + 1)) x = timesN ((zl L).take k) x + if hasB (L.getD k default).z x then 1 else 0 := by
  have := times_step (zl L) x k (by rw [zl_len]; exact hk)
  rw [zl_at L k hk] at this
  exact this
theorem tim_le (L : List IL) (x : Int) (k : Nat) : timesN ((zl L).take k) x ≤ k := by
  have h1 := times_le ((zl L).take k) x
  have h2 : ((zl L).take k).length ≤ k := List.length_take_le _ _
  omega
set_option maxRecDepth 100000 in
set_option maxHeartbeats 4000000 in
theorem times_any (a : Option Addr) (n c : Nat) (L : List IL) (x : Int) (w : World) (hn : L.length = n) (hL : ILsAt w a L) (hX : n * 24 ≤ 140737488351232) :
    Calls Try.prog 10 #[.slice a n c, .int .i64 x] w fun e w' => e = .returned (.int .i64 (timesN (zl L) x : Nat)) ∧ w' = w := by
  replace hL : Hid _ := hL
  replace hn : Hid _ := hn
  go_enter Try.func10, Try.ntmps10
  go_wp2_with fail
  go_loop [5, 6] (fun v5 v6 => ∃ j : Nat, j ≤ n ∧ v6 = .int .i64 j ∧ v5 = .int .i64 (timesN ((zl L).take j) x : Nat)) (fun _ v6 => n - (intOf v6).toNat)
  case atStart => exact ⟨0, by omega, rfl, by simp [timesN]⟩
  case round =>
    obtain ⟨j, j1, rfl, rfl⟩ := hrel
    have htl := tim_le L x j
    by_cases hj : j < n
    · obtain ⟨g, off, rfl, cx, hX⟩ := ILsAt.at hL.out j (by rw [hn.out]; exact hj)
      have hnx := tim_next L x j (by rw [hn.out]; exact hj)
      generalize L.getD j default = X at cx hX hnx
      generalize timesN ((zl L).take j) x = T at htl hnx
      have hXl := hX.ln
      have hXb := hX.lb
      replace hX : Hid _ := hX
      replace hnx : Hid _ := hnx
      replace hXl : Hid _ := hXl
      clear hL
      go_wp2_with fail
      go_loop [7, 8] (fun v7 v8 => ∃ k : Nat, k ≤ X.l ∧ v8 = .int .i64 k ∧ v7 = .bool (hasB (X.z.take k) x)) (fun _ v8 => X.l - (intOf v8).toNat)
      case atStart => exact ⟨0, by omega, rfl, by rw [has_zero]⟩
      case round =>
        obtain ⟨k, k1, rfl, rfl⟩ := hrel
        by_cases hk : k < X.l
        · obtain ⟨b, o, ea, cz⟩ := PathAt.num hX.out.pt k (by rw [hXl.out]; exact hk)
          have hhn := has_next X.z x k (by rw [hXl.out]; exact hk)
          rw [ea] at cx
          replace ea : Hid _ := ea
          generalize X.z.getD k 0 = z at cz hhn
          cases hT : hasB (X.z.take k) x with
          | true =>
            rw [hT] at hhn
            replace hhn : Hid _ := hhn
            clear hT
            go_wp2_with fail
            go_round
            case rel => exact ⟨k + 1, by omega, by go_num, by rw [hhn.out]; rfl⟩
            case measure => simp [intOf]; omega
          | false =>
            rw [hT] at hhn
            replace hhn : Hid _ := hhn
            clear hT
            go_wp2_with fail
            go_round
            case rel => exact ⟨k + 1, by omega, by go_num, by rw [hhn.out, Bool.false_or]⟩
            case measure => simp [intOf]; omega
        · have hfin := has_all X.z x k (by rw [hXl.out]; omega)
          cases hT : hasB (X.z.take k) x with
          | true =>
            rw [hT] at hfin
            replace hfin : Hid _ := hfin
            clear hT
            go_wp2_with fail
            go_round
            case rel => exact ⟨j + 1, by omega, by go_num, by rw [hnx.out, ← hfin.out]; rfl⟩
            case measure => simp [intOf]; omega
          | false =>
            rw [hT] at hfin
            replace hfin : Hid _ := hfin
            clear hT
            go_wp2_with fail
            go_round
            case rel => exact ⟨j + 1, by omega, by go_num, by rw [hnx.out, ← hfin.out]; rfl⟩
            case measure => simp [intOf]; omega
    · have hall : (zl L).take j = zl L := List.take_of_length_le (by rw [zl_len, hn.out]; omega)
      rw [hall]
      clear hall htl
      go_wp2_with fail
      go_returns
      exact ⟨rfl, rfl⟩
end Go.Proofs.Ythdeifjnfcjaaaa
