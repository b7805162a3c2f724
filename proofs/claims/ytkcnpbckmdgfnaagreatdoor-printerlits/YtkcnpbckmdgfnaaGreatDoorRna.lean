/-
  A number, as the program reads it.
  A key or a name, as the program reads it.
  A word, as the program reads it.
-/
import Derived.Test.YtkcnpbckmdgfnaaGreatDoorKea
import Derived.Test.YtkcnpbckmdgfnaaGreatDoorLxa
import Derived.Lib.AtoiErrMem
import Derived.Test.YtkcnpbckmdgfnaaGreatDoorRdt
namespace Go.Proofs.YtkcnpbckmdgfnaaGreatDoor
open Go.RowKit
set_option linter.unusedSimpArgs false
set_option linter.unusedVariables false

theorem parse_ok (s : ByteArray) (hmax : s.size ≤ 9223372036854775806) (v : Int) (h : Lib.parseIntB 64 s.data.toList = .ok v) (w : World) :
    Calls Tryz.prog 142 #[.string s, .int .i64 10, .int .i64 64] w fun e w' => e = .returned (.tuple #[.int .i64 v, .nilIface]) ∧ Below w.heap.size w w' := by
  refine (Tryz.strconv_ParseInt_10_at64_ok s hmax v h w).mono ?_
  rintro e w' ⟨rfl, rfl | ⟨t, rfl⟩⟩
  · exact ⟨rfl, Below.refl _ _⟩
  · exact ⟨rfl, Lib.bytesWorld_below _ _ _⟩
theorem parse_range (s : ByteArray) (hlim : s.size ≤ 281474976710656) (h : Lib.parseIntB 64 s.data.toList = .range) (w : World) (hT : Tabs w) :
    Calls Tryz.prog 142 #[.string s, .int .i64 10, .int .i64 64] w fun e w' => (∃ v N, e = .returned (.tuple #[.int .i64 v, .iface 214 (.pointer (some ⟨N, 0, none⟩))])) ∧ Below w.heap.size w w' := by
  obtain ⟨ev, hv, hev⟩ := hT.rng
  refine (Tryz.strconv_ParseInt_10_at64_range s hlim h ev w hv hev).mono ?_
  rintro e w' ⟨N, he, _, _, hb⟩
  exact ⟨⟨_, N, he⟩, hb⟩
set_option maxRecDepth 100000 in
theorem readNumber_any (s : ByteArray) (hs : s.size ≤ 281474976710656) (hne : s.data.toList ≠ []) (hd : digB (Lib.decodeL s.data.toList).1 = true) (w : World) (hT : Tabs w) :
    Calls Tryz.prog 117 #[.string s] w fun e w' => e = .returned (resV (numW s.data.toList)) ∧ Below w.heap.size w w' := by
  have hL := leading_digits s (by unfold maxLen; omega)
  have hk := spanL_le digB _ s.data.toList (Nat.le_refl _)
  have hP := parse_digits _ (take_digits_ne _ hd hne) (span_digits s.data.toList)
  have hz : s.data.toList.length = s.size := Array.length_toList
  rw [hz] at hk
  unfold numW
  rw [← extract_take] at hP ⊢
  generalize spanL digB s.data.toList = n at *
  have hX : (s.extract 0 n).size ≤ s.size := by rw [ByteArray.size_extract]; omega
  clear hz hne hd
  have hbx := BoxAt.new w 0 ⟨#[]⟩ 0 0 rfl
  have hbel := below_new w (.cells #[.int .i64 0, .string ⟨#[]⟩, .int .i64 0, .int .i64 0] 147)
  replace hbel : Hid _ := hbel
  replace hL : Hid _ := hL
  by_cases hm : numFrom 0 (s.extract 0 n).data.toList ≤ maxI
  · rw [if_pos hm] at hP ⊢
    have hO := fun w => parse_ok (s.extract 0 n) (by omega) _ hP w
    generalize numFrom 0 (s.extract 0 n).data.toList = v at *
    replace hO : Hid _ := hO
    replace hP : Hid _ := hP
    replace hm : Hid _ := hm
    go_enter Tryz.func117, Tryz.ntmps117
    go_wp2_with (first
      | (go_at_call 141; refine Calls.mono (hL.out _) ?_; rintro e w1 ⟨rfl, hb1⟩)
      | (go_at_call 142; refine Calls.mono (hO.out _) ?_; rintro e w2 ⟨rfl, hb2⟩; have hb := below_on hb1 hb2; obtain ⟨c0, c1, c2, c3, fr⟩ := hbx.below hb; have f0 := fr 0; have f1 := fr 1; have f2 := fr 2; have f3 := fr 3))
    have hW := below_on hbel.out hb
    refine bodyPost_ret (results_tok rfl _ rfl rfl rfl ((hbx.below hb).put _ _ _ _)) rfl ?_
    exact ⟨rfl, by go_grown⟩
  · rw [if_neg hm] at hP ⊢
    have hO := fun w hT => parse_range (s.extract 0 n) (by omega) hP w hT
    replace hO : Hid _ := hO
    replace hP : Hid _ := hP
    replace hm : Hid _ := hm
    go_enter Tryz.func117, Tryz.ntmps117
    go_wp2_with (first
      | (go_at_call 141; refine Calls.mono (hL.out _) ?_; rintro e w1 ⟨rfl, hb1⟩)
      | (go_at_call 142; refine Calls.mono (hO.out _ (hT.below (below_on hbel.out hb1))) ?_; rintro e w2 ⟨⟨v, N, rfl⟩, hb2⟩; have hb := below_on hb1 hb2; obtain ⟨c0, c1, c2, c3, fr⟩ := hbx.below hb; have f0 := fr 0; have f1 := fr 1; have f2 := fr 2; have f3 := fr 3))
    have hW := below_on hbel.out hb
    refine bodyPost_ret (results_tok rfl _ rfl rfl rfl ((hbx.below hb).put _ _ _ _)) rfl ?_
    exact ⟨rfl, by go_grown⟩
end Go.Proofs.YtkcnpbckmdgfnaaGreatDoor
namespace Go.Proofs.YtkcnpbckmdgfnaaGreatDoor
open Go.RowKit
set_option linter.unusedSimpArgs false
set_option linter.unusedVariables false

theorem txt_empty {k : List UInt8} : (txt k).toList.isEmpty = k.isEmpty := by
  rw [ByteArray.toList_eq]
  simp [txt]
theorem keyL_len (l : List UInt8) : (keyL l).length ≤ l.length := by
  unfold keyL
  split <;> simp
set_option maxRecDepth 100000 in
theorem Clone_any (s : ByteArray) (hs : s.size ≤ 281474976710656) (w : World) : Calls Tryz.prog 144 #[.string s] w fun e w' => e = .returned (.string s) ∧ Below w.heap.size w w' := by
  have hC := fun w => Tryz.stringslite_Clone s w hs
  replace hC : Hid _ := hC
  go_enter Tryz.func144, Tryz.ntmps144
  go_wp2_with (go_at_call 162; refine Calls.mono (hC.out _) ?_; rintro e w1 ⟨rfl, hb1⟩)
  go_returns
  exact ⟨rfl, hb1⟩
set_option maxRecDepth 100000 in
theorem readName_any (s : ByteArray) (hs : s.size < 35184372088832) (w : World) (hT : Tabs w) :
    Calls Tryz.prog 119 #[.string s] w fun e w' => e = .returned (resV (nameW s.data.toList)) ∧ Below w.heap.size w w' := by
  have hL := leading_goes s (by unfold maxLen; omega)
  have hk := spanL_le (runeB false) _ s.data.toList (Nat.le_refl _)
  have hz : s.data.toList.length = s.size := Array.length_toList
  rw [hz] at hk
  unfold nameW
  rw [← extract_take]
  generalize spanL (runeB false) s.data.toList = n at *
  have hX : (s.extract 0 n).size ≤ s.size := by rw [ByteArray.size_extract]; omega
  have hK := fun w hT => Key_any (s.extract 0 n) (by omega) w hT
  have hC := fun w => Clone_any (s.extract 0 n) (by omega) w
  generalize hXe : s.extract 0 n = X at *
  have hXt : txt X.data.toList = X := txt_of X
  clear hz
  have hbx := BoxAt.new w 0 ⟨#[]⟩ 0 0 rfl
  have hbel := below_new w (.cells #[.int .i64 0, .string ⟨#[]⟩, .int .i64 0, .int .i64 0] 147)
  generalize keyL X.data.toList = K at *
  have hE := txt_empty (k := K)
  replace hXe : Hid _ := hXe
  replace hXt : Hid _ := hXt
  replace hbel : Hid _ := hbel
  replace hL : Hid _ := hL
  replace hK : Hid _ := hK
  replace hC : Hid _ := hC
  by_cases hm : K = []
  · rw [if_neg (fun e => e hm)]
    subst hm
    by_cases h32 : 32 < n
    · rw [if_pos h32]
      go_enter Tryz.func119, Tryz.ntmps119
      go_wp2_with (first
        | (go_at_call 141; refine Calls.mono (hL.out _) ?_; rintro e w1 ⟨rfl, hb1⟩; have hXo := hXe.out)
        | (go_at_call 104; refine Calls.mono (hK.out _ (hT.below (below_on hbel.out hb1))) ?_; rintro e w2 ⟨rfl, hb2⟩; have hb := below_on hb1 hb2; obtain ⟨c0, c1, c2, c3, fr⟩ := hbx.below hb; have f0 := fr 0; have f1 := fr 1; have f2 := fr 2; have f3 := fr 3))
      have hW := below_on hbel.out hb
      refine bodyPost_ret (results_tok rfl _ rfl rfl rfl ((hbx.below hb).put _ _ _ _)) rfl ?_
      exact ⟨rfl, by go_grown⟩
    · rw [if_neg h32]
      go_enter Tryz.func119, Tryz.ntmps119
      go_wp2_with (first
        | (go_at_call 141; refine Calls.mono (hL.out _) ?_; rintro e w1 ⟨rfl, hb1⟩; have hXo := hXe.out)
        | (go_at_call 104; refine Calls.mono (hK.out _ (hT.below (below_on hbel.out hb1))) ?_; rintro e w2 ⟨rfl, hb2⟩)
        | (go_at_call 144; refine Calls.mono (hC.out _) ?_; rintro e w3 ⟨rfl, hb3⟩; have hb := below_on (below_on hb1 hb2) hb3; obtain ⟨c0, c1, c2, c3, fr⟩ := hbx.below hb; have f0 := fr 0; have f1 := fr 1; have f2 := fr 2; have f3 := fr 3))
      have hW := below_on hbel.out hb
      refine bodyPost_ret (results_tok rfl _ rfl rfl rfl ((hbx.below hb).put _ _ _ _)) rfl ?_
      refine ⟨?_, by go_grown⟩
      have e3 : resV ⟨1, X.data.toList, 0, n, 0⟩ = .tuple #[tokV 1 X 0 0, .int .i64 n, .int .i64 0] := by
        unfold resV
        dsimp only
        rw [hXt.out]
      rw [e3]
      rfl
  · rw [if_pos hm]
    have hE2 : K.isEmpty = false := by cases K <;> simp_all
    rw [hE2] at hE
    replace hm : Hid _ := hm
    replace hE2 : Hid _ := hE2
    go_enter Tryz.func119, Tryz.ntmps119
    go_wp2_with (first
      | (go_at_call 141; refine Calls.mono (hL.out _) ?_; rintro e w1 ⟨rfl, hb1⟩; have hXo := hXe.out)
      | (go_at_call 104; refine Calls.mono (hK.out _ (hT.below (below_on hbel.out hb1))) ?_; rintro e w2 ⟨rfl, hb2⟩; have hb := below_on hb1 hb2; obtain ⟨c0, c1, c2, c3, fr⟩ := hbx.below hb; have f0 := fr 0; have f1 := fr 1; have f2 := fr 2; have f3 := fr 3))
    have hW := below_on hbel.out hb
    refine bodyPost_ret (results_tok rfl _ rfl rfl rfl ((hbx.below hb).put _ _ _ _)) rfl ?_
    exact ⟨rfl, by go_grown⟩
end Go.Proofs.YtkcnpbckmdgfnaaGreatDoor
namespace Go.Proofs.YtkcnpbckmdgfnaaGreatDoor
open Go.RowKit
set_option linter.unusedSimpArgs false
set_option linter.unusedVariables false

set_option maxRecDepth 100000 in
theorem readWord_any (s : ByteArray) (hs : s.size ≤ 4096) (hne : s.data.toList ≠ []) (w : World) (hT : Tabs w) :
    Calls Tryz.prog 85 #[.string s, .int .i32 (Lib.decodeL s.data.toList).1] w fun e w' => e = .returned (resV (wordL s.data.toList)) ∧ Below w.heap.size w w' := by
  have hz : s.data.toList.length = s.size := Array.length_toList
  have h1 : 1 ≤ s.size := by
    have := List.length_pos_iff.2 hne
    omega
  have hsc : 0 ≤ ((Lib.decodeL s.data.toList).1 : Int) ∧ (((Lib.decodeL s.data.toList).1 : Int) < 55296 ∨ 57344 ≤ ((Lib.decodeL s.data.toList).1 : Int) ∧ ((Lib.decodeL s.data.toList).1 : Int) ≤ 1114111) := by
    have := decodeL_scalar s.data.toList
    omega
  have hD := fun w => isDigit_below ((Lib.decodeL s.data.toList).1 : Int) w
  have hG := fun w => beginsName_any ((Lib.decodeL s.data.toList).1 : Int) hsc.1 hsc.2 w
  have hR0 := fun w (hT : Tabs w) => readText_any s hs h1 w
  have hR1 := fun (hd : digB (Lib.decodeL s.data.toList).1 = true) w hT => readNumber_any s (by omega) hne hd w hT
  have hR2 := fun w hT => readName_any s (by omega) w hT
  have hR3 := fun w hT => readSign_any s w hT
  have hbx := BoxAt.new w 0 ⟨#[]⟩ 0 0 rfl
  have hbel := below_new w (.cells #[.int .i64 0, .string ⟨#[]⟩, .int .i64 0, .int .i64 0] 147)
  have hcur := Below.refl (w.alloc (.cells #[.int .i64 0, .string ⟨#[]⟩, .int .i64 0, .int .i64 0] 147)).heap.size (w.alloc (.cells #[.int .i64 0, .string ⟨#[]⟩, .int .i64 0, .int .i64 0] 147))
  unfold wordL
  generalize (Lib.decodeL s.data.toList).1 = C at *
  clear hz hsc hne
  replace hbel : Hid _ := hbel
  by_cases h39 : C = 39
  · rw [if_pos h39]
    subst h39
    have hR := hR0
    clear hR0 hR1 hR2 hR3
    generalize textW s.data.toList = X at *
    obtain ⟨k, t, n, len, e⟩ := X
    unfold resV tokV at hR
    replace hD : Hid _ := hD
    replace hG : Hid _ := hG
    replace hR : Hid _ := hR
    go_enter Tryz.func85, Tryz.ntmps85
    go_wp2_with (first
      | (go_at_call 116; refine Calls.mono (hD.out _) ?_; rintro e w1 ⟨rfl, hb1⟩; replace hcur := below_on hcur hb1)
      | (go_at_call 118; refine Calls.mono (hG.out _) ?_; rintro e w1 ⟨rfl, hb1⟩; replace hcur := below_on hcur hb1)
      | (go_at_call 115; refine Calls.mono (hR.out _ (hT.below (below_on hbel.out hcur))) ?_; rintro e w2 ⟨rfl, hb2⟩; have hb := below_on hcur hb2; obtain ⟨c0, c1, c2, c3, fr⟩ := hbx.below hb; have f0 := fr 0; have f1 := fr 1; have f2 := fr 2; have f3 := fr 3))
    have hW := below_on hbel.out hb
    refine bodyPost_ret (results_tok rfl _ rfl rfl rfl ((hbx.below hb).put _ _ _ _)) rfl ?_
    exact ⟨rfl, by go_grown⟩
  rw [if_neg h39]
  cases hd : digB (C : Int)
  case true =>
    rw [if_pos rfl]
    have hR := hR1 hd
    clear hR0 hR1 hR2 hR3
    generalize numW s.data.toList = X at *
    obtain ⟨k, t, n, len, e⟩ := X
    unfold resV tokV at hR
    rw [hd] at hD
    replace hD : Hid _ := hD
    replace hG : Hid _ := hG
    replace hR : Hid _ := hR
    replace hd : Hid _ := hd
    go_enter Tryz.func85, Tryz.ntmps85
    go_wp2_with (first
      | (go_at_call 116; refine Calls.mono (hD.out _) ?_; rintro e w1 ⟨rfl, hb1⟩; replace hcur := below_on hcur hb1)
      | (go_at_call 118; refine Calls.mono (hG.out _) ?_; rintro e w1 ⟨rfl, hb1⟩; replace hcur := below_on hcur hb1)
      | (go_at_call 117; refine Calls.mono (hR.out _ (hT.below (below_on hbel.out hcur))) ?_; rintro e w2 ⟨rfl, hb2⟩; have hb := below_on hcur hb2; obtain ⟨c0, c1, c2, c3, fr⟩ := hbx.below hb; have f0 := fr 0; have f1 := fr 1; have f2 := fr 2; have f3 := fr 3))
    have hW := below_on hbel.out hb
    refine bodyPost_ret (results_tok rfl _ rfl rfl rfl ((hbx.below hb).put _ _ _ _)) rfl ?_
    exact ⟨rfl, by go_grown⟩
  rw [if_neg (by decide)]
  rw [hd] at hD
  cases hn : runeB true (C : Int)
  case true =>
    rw [if_pos rfl]
    have hR := hR2
    clear hR0 hR1 hR2 hR3
    generalize nameW s.data.toList = X at *
    obtain ⟨k, t, n, len, e⟩ := X
    unfold resV tokV at hR
    rw [hn] at hG
    replace hD : Hid _ := hD
    replace hG : Hid _ := hG
    replace hR : Hid _ := hR
    replace hd : Hid _ := hd
    replace hn : Hid _ := hn
    go_enter Tryz.func85, Tryz.ntmps85
    go_wp2_with (first
      | (go_at_call 116; refine Calls.mono (hD.out _) ?_; rintro e w1 ⟨rfl, hb1⟩; replace hcur := below_on hcur hb1)
      | (go_at_call 118; refine Calls.mono (hG.out _) ?_; rintro e w1 ⟨rfl, hb1⟩; replace hcur := below_on hcur hb1)
      | (go_at_call 119; refine Calls.mono (hR.out _ (hT.below (below_on hbel.out hcur))) ?_; rintro e w2 ⟨rfl, hb2⟩; have hb := below_on hcur hb2; obtain ⟨c0, c1, c2, c3, fr⟩ := hbx.below hb; have f0 := fr 0; have f1 := fr 1; have f2 := fr 2; have f3 := fr 3))
    have hW := below_on hbel.out hb
    refine bodyPost_ret (results_tok rfl _ rfl rfl rfl ((hbx.below hb).put _ _ _ _)) rfl ?_
    exact ⟨rfl, by go_grown⟩
  case false =>
    rw [if_neg (by decide)]
    have hR := hR3
    clear hR0 hR1 hR2 hR3
    generalize signW s.data.toList = X at *
    obtain ⟨k, t, n, len, e⟩ := X
    unfold resV tokV at hR
    rw [hn] at hG
    replace hD : Hid _ := hD
    replace hG : Hid _ := hG
    replace hR : Hid _ := hR
    replace hd : Hid _ := hd
    replace hn : Hid _ := hn
    go_enter Tryz.func85, Tryz.ntmps85
    go_wp2_with (first
      | (go_at_call 116; refine Calls.mono (hD.out _) ?_; rintro e w1 ⟨rfl, hb1⟩; replace hcur := below_on hcur hb1)
      | (go_at_call 118; refine Calls.mono (hG.out _) ?_; rintro e w1 ⟨rfl, hb1⟩; replace hcur := below_on hcur hb1)
      | (go_at_call 120; refine Calls.mono (hR.out _ (hT.below (below_on hbel.out hcur))) ?_; rintro e w2 ⟨rfl, hb2⟩; have hb := below_on hcur hb2; obtain ⟨c0, c1, c2, c3, fr⟩ := hbx.below hb; have f0 := fr 0; have f1 := fr 1; have f2 := fr 2; have f3 := fr 3))
    have hW := below_on hbel.out hb
    refine bodyPost_ret (results_tok rfl _ rfl rfl rfl ((hbx.below hb).put _ _ _ _)) rfl ?_
    exact ⟨rfl, by go_grown⟩
end Go.Proofs.YtkcnpbckmdgfnaaGreatDoor
