/-
  A number, as the program reads it.
-/
import Derived.Test.YtkcnpbckmdgfnaaGreatDoorTok
import Derived.Test.YtkcnpbckmdgfnaaGreatDoorLxa
import Derived.Lib.AtoiErrMem
namespace Go.Proofs.YtkcnpbckmdgfnaaGreatDoor
open Go.RowKit
set_option linter.unusedSimpArgs false
set_option linter.unusedVariables false

theorem parse_ok (s : ByteArray) (hmax : s.size ≤ 9223372036854775806) (v : Int) (h : Lib.parseIntB 64 s.data.toList = .ok v) (w : World) :
    Calls Tryz.prog 142 #[.string s, .int .i64 10, .int .i64 64] w fun e w' => e = .returned (.tuple #[.int .i64 v, .nilIface]) ∧ Below w.heap.size w w' := by
  refine (Tryz.strconv_ParseInt_10_at64_ok s hmax v h w).mono ?_
  rintro e w' ⟨rfl, rfl | ⟨t, rfl⟩⟩
  · exact ⟨rfl, Below.refl _ _⟩
  · exact ⟨rfl, Lib.bytesWorld_below _ _ _⟩
theorem parse_range (s : ByteArray) (hlim : s.size ≤ 281474976710656) (h : Lib.parseIntB 64 s.data.toList = .range) (w : World) (hT : Tabs w) :
    Calls Tryz.prog 142 #[.string s, .int .i64 10, .int .i64 64] w fun e w' => (∃ v N, e = .returned (.tuple #[.int .i64 v, .iface 214 (.pointer (some ⟨N, 0, none⟩))])) ∧ Below w.heap.size w w' := by
  obtain ⟨ev, hv, hev⟩ := hT.rng
  refine (Tryz.strconv_ParseInt_10_at64_range s hlim h ev w hv hev).mono ?_
  rintro e w' ⟨N, he, _, _, hb⟩
  exact ⟨⟨_, N, he⟩, hb⟩
set_option maxRecDepth 100000 in
theorem readNumber_any (s : ByteArray) (hs : s.size ≤ 281474976710656) (hne : s.data.toList ≠ []) (hd : digB (Lib.decodeL s.data.toList).1 = true) (w : World) (hT : Tabs w) :
    Calls Tryz.prog 117 #[.string s] w fun e w' => e = .returned (resV (numW s.data.toList)) ∧ Below w.heap.size w w' := by
  have hL := leading_digits s (by unfold maxLen; omega)
  have hk := spanL_le digB _ s.data.toList (Nat.le_refl _)
  have hP := parse_digits _ (take_digits_ne _ hd hne) (span_digits s.data.toList)
  have hz : s.data.toList.length = s.size := Array.length_toList
  rw [hz] at hk
  unfold numW
  rw [← extract_take] at hP ⊢
  generalize spanL digB s.data.toList = n at *
  have hX : (s.extract 0 n).size ≤ s.size := by rw [ByteArray.size_extract]; omega
  clear hz hne hd
  have hbx := BoxAt.new w 0 ⟨#[]⟩ 0 0 rfl
  have hbel := below_new w (.cells #[.int .i64 0, .string ⟨#[]⟩, .int .i64 0, .int .i64 0] 147)
  replace hbel : Hid _ := hbel
  replace hL : Hid _ := hL
  by_cases hm : numFrom 0 (s.extract 0 n).data.toList ≤ maxI
  · rw [if_pos hm] at hP ⊢
    have hO := fun w => parse_ok (s.extract 0 n) (by omega) _ hP w
    generalize numFrom 0 (s.extract 0 n).data.toList = v at *
    replace hO : Hid _ := hO
    replace hP : Hid _ := hP
    replace hm : Hid _ := hm
    go_enter Tryz.func117, Tryz.ntmps117
    go_wp2_with (first
      | (go_at_call 141; refine Calls.mono (hL.out _) ?_; rintro e w1 ⟨rfl, hb1⟩)
      | (go_at_call 142; refine Calls.mono (hO.out _) ?_; rintro e w2 ⟨rfl, hb2⟩; have hb := below_on hb1 hb2; obtain ⟨c0, c1, c2, c3, fr⟩ := hbx.below hb; have f0 := fr 0; have f1 := fr 1; have f2 := fr 2; have f3 := fr 3))
    have hW := below_on hbel.out hb
    refine bodyPost_ret (results_tok rfl _ rfl rfl rfl ((hbx.below hb).put _ _ _ _)) rfl ?_
    exact ⟨rfl, by go_grown⟩
  · rw [if_neg hm] at hP ⊢
    have hO := fun w hT => parse_range (s.extract 0 n) (by omega) hP w hT
    replace hO : Hid _ := hO
    replace hP : Hid _ := hP
    replace hm : Hid _ := hm
    go_enter Tryz.func117, Tryz.ntmps117
    go_wp2_with (first
      | (go_at_call 141; refine Calls.mono (hL.out _) ?_; rintro e w1 ⟨rfl, hb1⟩)
      | (go_at_call 142; refine Calls.mono (hO.out _ (hT.below (below_on hbel.out hb1))) ?_; rintro e w2 ⟨⟨v, N, rfl⟩, hb2⟩; have hb := below_on hb1 hb2; obtain ⟨c0, c1, c2, c3, fr⟩ := hbx.below hb; have f0 := fr 0; have f1 := fr 1; have f2 := fr 2; have f3 := fr 3))
    have hW := below_on hbel.out hb
    refine bodyPost_ret (results_tok rfl _ rfl rfl rfl ((hbx.below hb).put _ _ _ _)) rfl ?_
    exact ⟨rfl, by go_grown⟩
end Go.Proofs.YtkcnpbckmdgfnaaGreatDoor
