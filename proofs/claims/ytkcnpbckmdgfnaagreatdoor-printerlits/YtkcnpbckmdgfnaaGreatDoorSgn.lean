/-
  Signs: one array, looked through; or two bytes, and one.
-/
import Derived.Test.YtkcnpbckmdgfnaaGreatDoorKea
namespace Go.Proofs.YtkcnpbckmdgfnaaGreatDoor
open Go.RowKit
set_option linter.unusedSimpArgs false
set_option linter.unusedVariables false

set_option maxRecDepth 100000 in
theorem index_signs (k : Nat) (hk : k < 19) (w : World) : (Instr.index 194 (.agg (rowT signsL)) (.int .i64 k)).run Tryz.prog w = .ok (.string (txt (signsL.getD k []))) w := by
  rcases (show k = 0 ∨ k = 1 ∨ k = 2 ∨ k = 3 ∨ k = 4 ∨ k = 5 ∨ k = 6 ∨ k = 7 ∨ k = 8 ∨ k = 9 ∨ k = 10 ∨ k = 11 ∨ k = 12 ∨ k = 13 ∨ k = 14 ∨ k = 15 ∨ k = 16 ∨ k = 17 ∨ k = 18 by omega) with rfl | rfl | rfl | rfl | rfl | rfl | rfl | rfl | rfl | rfl | rfl | rfl | rfl | rfl | rfl | rfl | rfl | rfl | rfl
  all_goals kernel_rfl
theorem find_at {α : Type} (p : α → Bool) (d : α) : ∀ (L : List α) (k : Nat), k < L.length → (∀ j, j < k → p (L.getD j d) = false) → p (L.getD k d) = true → L.find? p = some (L.getD k d)
  | [], _, h, _, _ => by simp at h
  | x :: L, 0, _, _, h => by
    have h : p x = true := h
    simp [List.find?, h]
  | x :: L, k + 1, hk, h, h1 => by
    have h0 : p x = false := h 0 (by omega)
    rw [List.find?, h0]
    exact find_at p d L k (by simpa using hk) (fun j hj => h (j + 1) (by omega)) h1
theorem find_no {α : Type} (p : α → Bool) (d : α) : ∀ (L : List α), (∀ j, j < L.length → p (L.getD j d) = false) → L.find? p = none
  | [], _ => rfl
  | x :: L, h => by
    have h0 : p x = false := h 0 (by simp)
    rw [List.find?, h0]
    exact find_no p d L (fun j hj => h (j + 1) (by simpa using hj))
theorem signs_full : ∀ k, k < 19 → signsL.getD k [] ≠ [] := by decide
theorem prefix_any (s p : ByteArray) (w : World) : Calls Tryz.prog 145 #[.string s, .string p] w fun e w' => e = .returned (.bool (p.data.toList.isPrefixOf s.data.toList)) ∧ w' = w := by
  refine (Tryz.strings_HasPrefix s p w).mono ?_
  intro e w' h
  simpa [Lib.hasPrefix] using h
set_option maxRecDepth 100000 in
theorem readSign_any (s : ByteArray) (w : World) (hT : Tabs w) :
    Calls Tryz.prog 120 #[.string s] w fun e w' => e = .returned (resV (signW s.data.toList)) ∧ Below w.heap.size w w' := by
  have hbx := BoxAt.new w 0 ⟨#[]⟩ 0 0 rfl
  have hbel := below_new w (.cells #[.int .i64 0, .string ⟨#[]⟩, .int .i64 0, .int .i64 0] 147)
  obtain ⟨t3, fr3, hk3⟩ := (hT.below hbel).signs
  have hF := find_at (fun g => g.isPrefixOf s.data.toList) [] signsL
  have hN := find_no (fun g => g.isPrefixOf s.data.toList) [] signsL
  replace hbel : Hid _ := hbel
  replace hk3 : Hid _ := hk3
  replace hF : Hid _ := hF
  replace hN : Hid _ := hN
  obtain ⟨c0, c1, c2, c3, fr⟩ := hbx
  go_enter Tryz.func120, Tryz.ntmps120
  go_wp2_with (refine wpList_load_row rfl 194 _ rfl 5 rfl _ _ _ _ hk3.out Tryz.underlying194 rfl (by kernel_rfl) ?_)
  go_loop [8] (fun i => ∃ k : Nat, k ≤ 19 ∧ i = .int .i64 k ∧ ∀ j, j < k → (signsL.getD j []).isPrefixOf s.data.toList = false) (fun i => 19 - (intOf i).toNat)
  case atStart => exact ⟨0, by omega, rfl, fun j hj => by omega⟩
  case round =>
    obtain ⟨k, hk, rfl, hz⟩ := hrel
    replace hz : Hid _ := hz
    by_cases hlt : k < 19
    · have hix := index_signs k hlt
      have hfull := signs_full k hlt
      have hP := fun w => prefix_any s (txt (signsL.getD k [])) w
      rw [txt_list] at hP
      generalize hKd : signsL.getD k [] = Kd at hix hP hfull
      replace hKd : Hid _ := hKd
      replace hfull : Hid _ := hfull
      cases hq : Kd.isPrefixOf s.data.toList
      · rw [hq] at hP
        replace hP : Hid _ := hP
        replace hq : Hid _ := hq
        go_wp2_with (go_at_call 145; refine Calls.mono (hP.out _) ?_; rintro e w1 ⟨rfl, rfl⟩)
        go_round
        case rel => exact ⟨k + 1, by omega, by go_num, fun j hj => by
          by_cases e : j = k
          · subst e; rw [hKd.out]; exact hq.out
          · exact hz.out j (by omega)⟩
        case measure => simp [intOf]; omega
      · rw [hq] at hP
        have hS : signL s.data.toList = Kd := by
          have := hF.out k hlt hz.out (by rw [hKd.out]; exact hq)
          unfold signL
          rw [this, hKd.out]; rfl
        replace hP : Hid _ := hP
        replace hq : Hid _ := hq
        replace hS : Hid _ := hS
        go_wp2_with (go_at_call 145; refine Calls.mono (hP.out _) ?_; rintro e w1 ⟨rfl, rfl⟩)
        refine bodyPost_ret (results_tok rfl _ rfl rfl rfl (BoxAt.new w 5 (txt Kd) 0 0 rfl)) rfl ?_
        refine ⟨?_, by go_grown⟩
        have e3 : resV (signW s.data.toList) = .tuple #[tokV 5 (txt Kd) 0 0, .int .i64 (txt Kd).size, .int .i64 0] := by
          unfold resV signW
          rw [hS.out, if_neg hfull.out, txt_size]
        rw [e3]
        rfl
    · have hS : signL s.data.toList = [] := by
        unfold signL
        rw [hN.out (fun j hj => hz.out j (by have : j < 19 := hj; omega))]; rfl
      replace hS : Hid _ := hS
      go_wp2_with fail
      refine bodyPost_ret (results_tok rfl _ rfl rfl rfl (BoxAt.new w 0 ⟨#[]⟩ 0 0 rfl)) rfl ?_
      refine ⟨?_, by go_grown⟩
      have e3 : resV (signW s.data.toList) = .tuple #[tokV 0 ⟨#[]⟩ 0 0, .int .i64 0, .int .i64 71] := by
        unfold resV signW
        rw [hS.out, if_pos rfl]
        rfl
      rw [e3]
      rfl
end Go.Proofs.YtkcnpbckmdgfnaaGreatDoor
