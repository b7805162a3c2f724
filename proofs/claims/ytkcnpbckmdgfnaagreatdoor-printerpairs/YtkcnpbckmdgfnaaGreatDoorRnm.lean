/-
  A key or a name, as the program reads it.
-/
import Derived.Test.YtkcnpbckmdgfnaaGreatDoorTok
namespace Go.Proofs.YtkcnpbckmdgfnaaGreatDoor
open Go.RowKit
set_option linter.unusedSimpArgs false
set_option linter.unusedVariables false

theorem txt_empty {k : List UInt8} : (txt k).toList.isEmpty = k.isEmpty := by
  rw [ByteArray.toList_eq]
  simp [txt]
theorem keyL_len (l : List UInt8) : (keyL l).length ≤ l.length := by
  unfold keyL
  split <;> simp
set_option maxRecDepth 100000 in
theorem Clone_any (s : ByteArray) (hs : s.size ≤ 281474976710656) (w : World) : Calls Tryz.prog 144 #[.string s] w fun e w' => e = .returned (.string s) ∧ Below w.heap.size w w' := by
  have hC := fun w => Tryz.stringslite_Clone s w hs
  replace hC : Hid _ := hC
  go_enter Tryz.func144, Tryz.ntmps144
  go_wp2_with (go_at_call 162; refine Calls.mono (hC.out _) ?_; rintro e w1 ⟨rfl, hb1⟩)
  go_returns
  exact ⟨rfl, hb1⟩
set_option maxRecDepth 100000 in
theorem readName_any (s : ByteArray) (hs : s.size < 35184372088832) (w : World) (hT : Tabs w) :
    Calls Tryz.prog 119 #[.string s] w fun e w' => e = .returned (resV (nameW s.data.toList)) ∧ Below w.heap.size w w' := by
  have hL := leading_goes s (by unfold maxLen; omega)
  have hk := spanL_le (runeB false) _ s.data.toList (Nat.le_refl _)
  have hz : s.data.toList.length = s.size := Array.length_toList
  rw [hz] at hk
  unfold nameW
  rw [← extract_take]
  generalize spanL (runeB false) s.data.toList = n at *
  have hX : (s.extract 0 n).size ≤ s.size := by rw [ByteArray.size_extract]; omega
  have hK := fun w hT => Key_any (s.extract 0 n) (by omega) w hT
  have hC := fun w => Clone_any (s.extract 0 n) (by omega) w
  generalize hXe : s.extract 0 n = X at *
  have hXt : txt X.data.toList = X := txt_of X
  clear hz
  have hbx := BoxAt.new w 0 ⟨#[]⟩ 0 0 rfl
  have hbel := below_new w (.cells #[.int .i64 0, .string ⟨#[]⟩, .int .i64 0, .int .i64 0] 147)
  generalize keyL X.data.toList = K at *
  have hE := txt_empty (k := K)
  replace hXe : Hid _ := hXe
  replace hXt : Hid _ := hXt
  replace hbel : Hid _ := hbel
  replace hL : Hid _ := hL
  replace hK : Hid _ := hK
  replace hC : Hid _ := hC
  by_cases hm : K = []
  · rw [if_neg (fun e => e hm)]
    subst hm
    by_cases h32 : 32 < n
    · rw [if_pos h32]
      go_enter Tryz.func119, Tryz.ntmps119
      go_wp2_with (first
        | (go_at_call 141; refine Calls.mono (hL.out _) ?_; rintro e w1 ⟨rfl, hb1⟩; have hXo := hXe.out)
        | (go_at_call 104; refine Calls.mono (hK.out _ (hT.below (below_on hbel.out hb1))) ?_; rintro e w2 ⟨rfl, hb2⟩; have hb := below_on hb1 hb2; obtain ⟨c0, c1, c2, c3, fr⟩ := hbx.below hb; have f0 := fr 0; have f1 := fr 1; have f2 := fr 2; have f3 := fr 3))
      have hW := below_on hbel.out hb
      refine bodyPost_ret (results_tok rfl _ rfl rfl rfl ((hbx.below hb).put _ _ _ _)) rfl ?_
      exact ⟨rfl, by go_grown⟩
    · rw [if_neg h32]
      go_enter Tryz.func119, Tryz.ntmps119
      go_wp2_with (first
        | (go_at_call 141; refine Calls.mono (hL.out _) ?_; rintro e w1 ⟨rfl, hb1⟩; have hXo := hXe.out)
        | (go_at_call 104; refine Calls.mono (hK.out _ (hT.below (below_on hbel.out hb1))) ?_; rintro e w2 ⟨rfl, hb2⟩)
        | (go_at_call 144; refine Calls.mono (hC.out _) ?_; rintro e w3 ⟨rfl, hb3⟩; have hb := below_on (below_on hb1 hb2) hb3; obtain ⟨c0, c1, c2, c3, fr⟩ := hbx.below hb; have f0 := fr 0; have f1 := fr 1; have f2 := fr 2; have f3 := fr 3))
      have hW := below_on hbel.out hb
      refine bodyPost_ret (results_tok rfl _ rfl rfl rfl ((hbx.below hb).put _ _ _ _)) rfl ?_
      refine ⟨?_, by go_grown⟩
      have e3 : resV ⟨1, X.data.toList, 0, n, 0⟩ = .tuple #[tokV 1 X 0 0, .int .i64 n, .int .i64 0] := by
        unfold resV
        dsimp only
        rw [hXt.out]
      rw [e3]
      rfl
  · rw [if_pos hm]
    have hE2 : K.isEmpty = false := by cases K <;> simp_all
    rw [hE2] at hE
    replace hm : Hid _ := hm
    replace hE2 : Hid _ := hE2
    go_enter Tryz.func119, Tryz.ntmps119
    go_wp2_with (first
      | (go_at_call 141; refine Calls.mono (hL.out _) ?_; rintro e w1 ⟨rfl, hb1⟩; have hXo := hXe.out)
      | (go_at_call 104; refine Calls.mono (hK.out _ (hT.below (below_on hbel.out hb1))) ?_; rintro e w2 ⟨rfl, hb2⟩; have hb := below_on hb1 hb2; obtain ⟨c0, c1, c2, c3, fr⟩ := hbx.below hb; have f0 := fr 0; have f1 := fr 1; have f2 := fr 2; have f3 := fr 3))
    have hW := below_on hbel.out hb
    refine bodyPost_ret (results_tok rfl _ rfl rfl rfl ((hbx.below hb).put _ _ _ _)) rfl ?_
    exact ⟨rfl, by go_grown⟩
end Go.Proofs.YtkcnpbckmdgfnaaGreatDoor
