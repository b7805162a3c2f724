/-
  A number, by the document.
-/
import Derived.Test.YtdnlnghgjjiajaaDoorRfn
import Derived.Test.YtdnlnghgjjiajaaDoorNmp
namespace Go.Proofs.YtdnlnghgjjiajaaDoor
open Go.RowKit
set_option linter.unusedSimpArgs false
set_option linter.unusedVariables false

/-- The number of the first digits. -/
def preN (l : List UInt8) (n : Nat) : Nat := numFrom 0 (l.take n)
theorem preN_zero (l : List UInt8) : preN l 0 = 0 := rfl
theorem preN_succ (s : ByteArray) (a n : Nat) (h : a + n < s.size) : preN (s.data.toList.drop a) (n + 1) = 10 * preN (s.data.toList.drop a) n + ((s[a + n]'h).toNat - 48) := by
  have hl : s.data.toList.length = s.size := Array.length_toList
  have hn : n < (s.data.toList.drop a).length := by rw [List.length_drop]; omega
  unfold preN
  rw [List.take_succ_eq_append_getElem hn, numFrom_append, numFrom_one]
  have e : (s.data.toList.drop a)[n] = s[a + n]'h := by
    rw [List.getElem_drop]
    rfl
  rw [e]
theorem preN_mono (l : List UInt8) (n m : Nat) (h : n ≤ m) : preN l n ≤ preN l m := by
  unfold preN
  have e : l.take m = l.take n ++ (l.drop n).take (m - n) := by
    rw [← List.take_add]
    congr 1
    omega
  rw [e, numFrom_append]
  exact numFrom_ge _ _
set_option maxRecDepth 100000 in
set_option maxHeartbeats 4000000 in
theorem refnumber_any (s : ByteArray) (hs : s.size ≤ 4096) (a : Nat) (ha : a < s.size) (w : World) :
    Calls Tryd.prog 34 #[.string s, .int .i64 a] w fun e w' => ∃ v : Int, e = .returned (.tuple #[.int .i64 v, .int .i64 (spanL digB (s.data.toList.drop a)), .bool (decide (preN (s.data.toList.drop a) (spanL digB (s.data.toList.drop a)) ≤ maxI))]) ∧
      (preN (s.data.toList.drop a) (spanL digB (s.data.toList.drop a)) ≤ maxI → v = preN (s.data.toList.drop a) (spanL digB (s.data.toList.drop a))) ∧ w' = w := by
  have hl : s.data.toList.length = s.size := Array.length_toList
  generalize hS : spanL digB (s.data.toList.drop a) = S
  replace hS : Hid _ := hS
  go_enter Tryd.func34, Tryd.ntmps34
  go_wp2_with fail
  go_loop [7, 8, 9] (fun v7 v8 v9 => ∃ (n v : Nat) (B : Bool), v7 = .int .i64 v ∧ v8 = .int .i64 n ∧ v9 = .bool B ∧ a + n ≤ s.size ∧ S = n + spanL digB (s.data.toList.drop (a + n)) ∧ v ≤ 9223372036854775807 ∧ (B = false → v = preN (s.data.toList.drop a) n) ∧ (B = true → maxI < preN (s.data.toList.drop a) n)) (fun _ v8 _ => s.size - (intOf v8).toNat)
  case atStart => exact ⟨0, 0, false, rfl, rfl, rfl, by omega, by rw [Nat.add_zero, hS.out, Nat.zero_add], by omega, fun _ => rfl, fun h => by cases h⟩
  case round =>
    obtain ⟨n, v, B, rfl, rfl, rfl, hle, hSn, hv, hB0, hB1⟩ := hrel
    by_cases hp : a + n < s.size
    · have hdc := drop_cons s (a + n) hp
      have hps := preN_succ s a n hp
      have hmo := preN_mono (s.data.toList.drop a) n (n + 1) (by omega)
      have hDi := fun w' => digit_any (s[a + n]'hp) w'
      have hdt := digB_t ((s[a + n]'hp).toNat : Int)
      cases hx : digB ((s[a + n]'hp).toNat : Int)
      · have hSS : S = n := by
          rw [hdc, span_nodig _ _ (by unfold digU; intro h; have := hdt.2 (by omega); rw [hx] at this; cases this)] at hSn
          omega
        rw [hx] at hDi
        have hdec : decide (preN (s.data.toList.drop a) n ≤ maxI) = !B := by
          cases B with
          | false => have := hB0 rfl; rw [← this]; simp; unfold maxI; omega
          | true => have := hB1 rfl; simp; omega
        clear hSn hdt hx hdc hps hmo
        subst hSS
        replace hdec : Hid _ := hdec
        replace hB0 : Hid _ := hB0
        replace hB1 : Hid _ := hB1
        replace hDi : Hid _ := hDi
        go_wp2_with (go_at_call 33; refine Calls.mono (hDi.out _) ?_; rintro e w3 ⟨rfl, hw3⟩; subst hw3)
        go_returns
        refine ⟨v, by show Ending.returned (.tuple #[.int .i64 v, .int .i64 S, .bool (!B)]) = _; rw [hdec.out], fun h => ?_, rfl⟩
        cases hBB : B with
        | false => rw [hB0.out hBB]
        | true => have := hB1.out hBB; omega
      · rw [hdc, span_dig _ _ (by unfold digU; have := hdt.1 hx; omega)] at hSn
        rw [hx] at hDi
        have hC := hdt.1 hx
        replace hDi : Hid _ := hDi
        replace hx : Hid _ := hx
        replace hSn : Hid _ := hSn
        replace hB0 : Hid _ := hB0
        replace hB1 : Hid _ := hB1
        replace hps : Hid _ := hps
        replace hdc : Hid _ := hdc
        clear hdt
        obtain ⟨hC0, hC1⟩ := hC
        go_wp2_with (go_at_call 33; refine Calls.mono (hDi.out _) ?_; rintro e w3 ⟨rfl, hw3⟩; subst hw3)
        all_goals have hS2 : S = n + 1 + spanL digB (s.data.toList.drop (a + (n + 1))) := by rw [hSn.out, show a + (n + 1) = a + n + 1 by omega]; omega
        · refine ⟨⟨n + 1, v, true, rfl, rfl, rfl, by omega, hS2, hv, (fun hB => absurd hB (by decide)), fun _ => ?_⟩, by show s.size - ((n : Int) + 1).toNat < s.size - (n : Int).toNat; omega⟩
          cases hBB : B with
          | false =>
            have := hB0.out hBB
            rw [hps.out, ← this]
            unfold maxI
            omega
          | true => have := hB1.out hBB; omega
        · refine ⟨⟨n + 1, 10 * v + ((s[a + n]'hp).toNat - 48), B, by congr 1; omega, rfl, rfl, by omega, hS2, by omega, fun hB => ?_, fun hB => ?_⟩, by show s.size - ((n : Int) + 1).toNat < s.size - (n : Int).toNat; omega⟩
          · rw [hps.out, ← hB0.out hB]
          · have := hB1.out hB; omega
    · have hSS : S = n := by
        rw [hSn, List.drop_eq_nil_of_le (by omega), spanL_nil, Nat.add_zero]
      have hdec : decide (preN (s.data.toList.drop a) n ≤ maxI) = !B := by
        cases B with
        | false => have := hB0 rfl; rw [← this]; simp; unfold maxI; omega
        | true => have := hB1 rfl; simp; omega
      clear hSn
      subst hSS
      replace hdec : Hid _ := hdec
      replace hB0 : Hid _ := hB0
      replace hB1 : Hid _ := hB1
      go_wp2_with fail
      go_returns
      refine ⟨v, by show Ending.returned (.tuple #[.int .i64 v, .int .i64 S, .bool (!B)]) = _; rw [hdec.out], fun h => ?_, rfl⟩
      cases hBB : B with
      | false => rw [hB0.out hBB]
      | true => have := hB1.out hBB; omega
end Go.Proofs.YtdnlnghgjjiajaaDoor
