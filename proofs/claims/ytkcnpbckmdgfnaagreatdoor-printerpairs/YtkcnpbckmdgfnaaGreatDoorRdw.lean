/-
  A word, as the program reads it.
-/
import Derived.Test.YtkcnpbckmdgfnaaGreatDoorRdn
import Derived.Test.YtkcnpbckmdgfnaaGreatDoorRnm
import Derived.Test.YtkcnpbckmdgfnaaGreatDoorRdt
namespace Go.Proofs.YtkcnpbckmdgfnaaGreatDoor
open Go.RowKit
set_option linter.unusedSimpArgs false
set_option linter.unusedVariables false

set_option maxRecDepth 100000 in
theorem readWord_any (s : ByteArray) (hs : s.size ≤ 4096) (hne : s.data.toList ≠ []) (w : World) (hT : Tabs w) :
    Calls Tryz.prog 85 #[.string s, .int .i32 (Lib.decodeL s.data.toList).1] w fun e w' => e = .returned (resV (wordL s.data.toList)) ∧ Below w.heap.size w w' := by
  have hz : s.data.toList.length = s.size := Array.length_toList
  have h1 : 1 ≤ s.size := by
    have := List.length_pos_iff.2 hne
    omega
  have hsc : 0 ≤ ((Lib.decodeL s.data.toList).1 : Int) ∧ (((Lib.decodeL s.data.toList).1 : Int) < 55296 ∨ 57344 ≤ ((Lib.decodeL s.data.toList).1 : Int) ∧ ((Lib.decodeL s.data.toList).1 : Int) ≤ 1114111) := by
    have := decodeL_scalar s.data.toList
    omega
  have hD := fun w => isDigit_below ((Lib.decodeL s.data.toList).1 : Int) w
  have hG := fun w => beginsName_any ((Lib.decodeL s.data.toList).1 : Int) hsc.1 hsc.2 w
  have hR0 := fun w (hT : Tabs w) => readText_any s hs h1 w
  have hR1 := fun (hd : digB (Lib.decodeL s.data.toList).1 = true) w hT => readNumber_any s (by omega) hne hd w hT
  have hR2 := fun w hT => readName_any s (by omega) w hT
  have hR3 := fun w hT => readSign_any s w hT
  have hbx := BoxAt.new w 0 ⟨#[]⟩ 0 0 rfl
  have hbel := below_new w (.cells #[.int .i64 0, .string ⟨#[]⟩, .int .i64 0, .int .i64 0] 147)
  have hcur := Below.refl (w.alloc (.cells #[.int .i64 0, .string ⟨#[]⟩, .int .i64 0, .int .i64 0] 147)).heap.size (w.alloc (.cells #[.int .i64 0, .string ⟨#[]⟩, .int .i64 0, .int .i64 0] 147))
  unfold wordL
  generalize (Lib.decodeL s.data.toList).1 = C at *
  clear hz hsc hne
  replace hbel : Hid _ := hbel
  by_cases h39 : C = 39
  · rw [if_pos h39]
    subst h39
    have hR := hR0
    clear hR0 hR1 hR2 hR3
    generalize textW s.data.toList = X at *
    obtain ⟨k, t, n, len, e⟩ := X
    unfold resV tokV at hR
    replace hD : Hid _ := hD
    replace hG : Hid _ := hG
    replace hR : Hid _ := hR
    go_enter Tryz.func85, Tryz.ntmps85
    go_wp2_with (first
      | (go_at_call 116; refine Calls.mono (hD.out _) ?_; rintro e w1 ⟨rfl, hb1⟩; replace hcur := below_on hcur hb1)
      | (go_at_call 118; refine Calls.mono (hG.out _) ?_; rintro e w1 ⟨rfl, hb1⟩; replace hcur := below_on hcur hb1)
      | (go_at_call 115; refine Calls.mono (hR.out _ (hT.below (below_on hbel.out hcur))) ?_; rintro e w2 ⟨rfl, hb2⟩; have hb := below_on hcur hb2; obtain ⟨c0, c1, c2, c3, fr⟩ := hbx.below hb; have f0 := fr 0; have f1 := fr 1; have f2 := fr 2; have f3 := fr 3))
    have hW := below_on hbel.out hb
    refine bodyPost_ret (results_tok rfl _ rfl rfl rfl ((hbx.below hb).put _ _ _ _)) rfl ?_
    exact ⟨rfl, by go_grown⟩
  rw [if_neg h39]
  cases hd : digB (C : Int)
  case true =>
    rw [if_pos rfl]
    have hR := hR1 hd
    clear hR0 hR1 hR2 hR3
    generalize numW s.data.toList = X at *
    obtain ⟨k, t, n, len, e⟩ := X
    unfold resV tokV at hR
    rw [hd] at hD
    replace hD : Hid _ := hD
    replace hG : Hid _ := hG
    replace hR : Hid _ := hR
    replace hd : Hid _ := hd
    go_enter Tryz.func85, Tryz.ntmps85
    go_wp2_with (first
      | (go_at_call 116; refine Calls.mono (hD.out _) ?_; rintro e w1 ⟨rfl, hb1⟩; replace hcur := below_on hcur hb1)
      | (go_at_call 118; refine Calls.mono (hG.out _) ?_; rintro e w1 ⟨rfl, hb1⟩; replace hcur := below_on hcur hb1)
      | (go_at_call 117; refine Calls.mono (hR.out _ (hT.below (below_on hbel.out hcur))) ?_; rintro e w2 ⟨rfl, hb2⟩; have hb := below_on hcur hb2; obtain ⟨c0, c1, c2, c3, fr⟩ := hbx.below hb; have f0 := fr 0; have f1 := fr 1; have f2 := fr 2; have f3 := fr 3))
    have hW := below_on hbel.out hb
    refine bodyPost_ret (results_tok rfl _ rfl rfl rfl ((hbx.below hb).put _ _ _ _)) rfl ?_
    exact ⟨rfl, by go_grown⟩
  rw [if_neg (by decide)]
  rw [hd] at hD
  cases hn : runeB true (C : Int)
  case true =>
    rw [if_pos rfl]
    have hR := hR2
    clear hR0 hR1 hR2 hR3
    generalize nameW s.data.toList = X at *
    obtain ⟨k, t, n, len, e⟩ := X
    unfold resV tokV at hR
    rw [hn] at hG
    replace hD : Hid _ := hD
    replace hG : Hid _ := hG
    replace hR : Hid _ := hR
    replace hd : Hid _ := hd
    replace hn : Hid _ := hn
    go_enter Tryz.func85, Tryz.ntmps85
    go_wp2_with (first
      | (go_at_call 116; refine Calls.mono (hD.out _) ?_; rintro e w1 ⟨rfl, hb1⟩; replace hcur := below_on hcur hb1)
      | (go_at_call 118; refine Calls.mono (hG.out _) ?_; rintro e w1 ⟨rfl, hb1⟩; replace hcur := below_on hcur hb1)
      | (go_at_call 119; refine Calls.mono (hR.out _ (hT.below (below_on hbel.out hcur))) ?_; rintro e w2 ⟨rfl, hb2⟩; have hb := below_on hcur hb2; obtain ⟨c0, c1, c2, c3, fr⟩ := hbx.below hb; have f0 := fr 0; have f1 := fr 1; have f2 := fr 2; have f3 := fr 3))
    have hW := below_on hbel.out hb
    refine bodyPost_ret (results_tok rfl _ rfl rfl rfl ((hbx.below hb).put _ _ _ _)) rfl ?_
    exact ⟨rfl, by go_grown⟩
  case false =>
    rw [if_neg (by decide)]
    have hR := hR3
    clear hR0 hR1 hR2 hR3
    generalize signW s.data.toList = X at *
    obtain ⟨k, t, n, len, e⟩ := X
    unfold resV tokV at hR
    rw [hn] at hG
    replace hD : Hid _ := hD
    replace hG : Hid _ := hG
    replace hR : Hid _ := hR
    replace hd : Hid _ := hd
    replace hn : Hid _ := hn
    go_enter Tryz.func85, Tryz.ntmps85
    go_wp2_with (first
      | (go_at_call 116; refine Calls.mono (hD.out _) ?_; rintro e w1 ⟨rfl, hb1⟩; replace hcur := below_on hcur hb1)
      | (go_at_call 118; refine Calls.mono (hG.out _) ?_; rintro e w1 ⟨rfl, hb1⟩; replace hcur := below_on hcur hb1)
      | (go_at_call 120; refine Calls.mono (hR.out _ (hT.below (below_on hbel.out hcur))) ?_; rintro e w2 ⟨rfl, hb2⟩; have hb := below_on hcur hb2; obtain ⟨c0, c1, c2, c3, fr⟩ := hbx.below hb; have f0 := fr 0; have f1 := fr 1; have f2 := fr 2; have f3 := fr 3))
    have hW := below_on hbel.out hb
    refine bodyPost_ret (results_tok rfl _ rfl rfl rfl ((hbx.below hb).put _ _ _ _)) rfl ?_
    exact ⟨rfl, by go_grown⟩
end Go.Proofs.YtkcnpbckmdgfnaaGreatDoor
