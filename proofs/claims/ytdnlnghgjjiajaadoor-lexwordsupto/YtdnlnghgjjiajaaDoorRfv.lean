/-
  A word, by the document: the rest.
-/
import Derived.Test.YtdnlnghgjjiajaaDoorRfw
namespace Go.Proofs.YtdnlnghgjjiajaaDoor
open Go.RowKit
set_option linter.unusedSimpArgs false
set_option linter.unusedVariables false

theorem digit_head (s : ByteArray) (a : Nat) (ha : a < s.size) : digB ((Lib.decodeL (s.data.toList.drop a)).1 : Int) = digB ((s[a]'ha).toNat : Int) := by
  rw [Lib.decodeL_drop]
  exact digit_rune s a ha
theorem name_none (l : List UInt8) (h : runeB true (Lib.decodeL l).1 = false) : nameT l = 0 := by
  unfold nameT
  rw [h]
  rfl
theorem rune_nodig (c : Int) (h : digB c = true) : runeB true c = false := by
  rw [digB_t] at h
  have hl : letB c = false := by
    cases hx : letB c with
    | false => rfl
    | true => rw [letB_t] at hx; omega
  unfold runeB
  rw [hl]
  have : decide (c = 95) = false := by simp; omega
  rw [this]
  rfl
set_option maxRecDepth 100000 in
set_option maxHeartbeats 2000000 in
theorem refword_num (s : ByteArray) (hs : s.size ≤ 4096) (a : Nat) (ha : a < s.size) (hd : digB (Lib.decodeL (s.data.toList.drop a)).1 = true) (w : World) (hT : Tabs w) :
    Calls Tryd.prog 21 #[.string s, .int .i64 a] w fun e w' => e = .returned (resA (numW (s.data.toList.drop a)) a) ∧ Below w.heap.size w w' := by
  have hL := fun w hT => refname_any s hs a ha w hT
  rw [name_none _ (rune_nodig _ hd)] at hL
  have hD := fun w => digit_any (s[a]'ha) w
  rw [← digit_head, hd] at hD
  have hR := fun w => refnumber_any s hs a ha w
  have hbx := BoxAt.new w 0 ⟨#[]⟩ 0 0 rfl
  have hbel := below_new w (.cells #[.int .i64 0, .string ⟨#[]⟩, .int .i64 0, .int .i64 0] 32)
  unfold numW
  rw [show numFrom 0 ((s.data.toList.drop a).take (spanL digB (s.data.toList.drop a))) = preN (s.data.toList.drop a) (spanL digB (s.data.toList.drop a)) from rfl]
  generalize preN (s.data.toList.drop a) (spanL digB (s.data.toList.drop a)) = N at *
  generalize spanL digB (s.data.toList.drop a) = n at *
  replace hbel : Hid _ := hbel
  replace hL : Hid _ := hL
  replace hD : Hid _ := hD
  clear hd
  by_cases hm : N ≤ maxI
  · rw [if_pos hm]
    rw [show decide (N ≤ maxI) = true from decide_eq_true hm] at hR
    replace hR : Hid _ := hR
    replace hm : Hid _ := hm
    go_enter Tryd.func21, Tryd.ntmps21
    go_wp2_with (first
      | (go_at_call 32; refine Calls.mono (hL.out _ (hT.below hbel.out)) ?_; rintro e w1 ⟨rfl, hb1⟩)
      | (go_at_call 33; refine Calls.mono (hD.out _) ?_; rintro e w2 ⟨rfl, hw2⟩; subst hw2)
      | (go_at_call 34; refine Calls.mono (hR.out _) ?_; rintro e w3 ⟨v, rfl, hv, hw3⟩; subst hw3; have hvN := hv hm.out; subst hvN; have hb := hb1; obtain ⟨c0, c1, c2, c3, fr⟩ := hbx.below hb; have f0 := fr 0; have f1 := fr 1; have f2 := fr 2; have f3 := fr 3))
    have hW := below_on hbel.out hb
    refine bodyPost_ret (results_tok rfl _ rfl rfl rfl ((hbx.below hb).put _ _ _ _)) rfl ?_
    exact ⟨rfl, by go_grown⟩
  · rw [if_neg hm]
    rw [show decide (N ≤ maxI) = false from decide_eq_false hm] at hR
    replace hR : Hid _ := hR
    replace hm : Hid _ := hm
    go_enter Tryd.func21, Tryd.ntmps21
    go_wp2_with (first
      | (go_at_call 32; refine Calls.mono (hL.out _ (hT.below hbel.out)) ?_; rintro e w1 ⟨rfl, hb1⟩)
      | (go_at_call 33; refine Calls.mono (hD.out _) ?_; rintro e w2 ⟨rfl, hw2⟩; subst hw2)
      | (go_at_call 34; refine Calls.mono (hR.out _) ?_; rintro e w3 ⟨v, rfl, hv, hw3⟩; subst hw3; have hb := hb1; obtain ⟨c0, c1, c2, c3, fr⟩ := hbx.below hb; have f0 := fr 0; have f1 := fr 1; have f2 := fr 2; have f3 := fr 3))
    have hW := below_on hbel.out hb
    refine bodyPost_ret (results_tok rfl _ rfl rfl rfl ((hbx.below hb).put _ _ _ _)) rfl ?_
    exact ⟨rfl, by go_grown⟩
set_option maxRecDepth 100000 in
set_option maxHeartbeats 2000000 in
theorem refword_text (s : ByteArray) (hs : s.size ≤ 4096) (a : Nat) (ha : a < s.size) (h39 : s[a]'ha = 39) (w : World) (hT : Tabs w) :
    Calls Tryd.prog 21 #[.string s, .int .i64 a] w fun e w' => e = .returned (resA (textW (s.data.toList.drop a)) a) ∧ Below w.heap.size w w' := by
  have hdc := drop_cons s a ha
  have hL := fun w hT => refname_any s hs a ha w hT
  have hD := fun w => digit_any (s[a]'ha) w
  have hR := fun w hT => reftext_any s hs a ha h39 w hT
  rw [name_none _ (by rw [hdc, h39, decodeL_low 39 _ (by decide)]; decide)] at hL
  rw [h39, show digB ((39 : UInt8).toNat : Int) = false by decide] at hD
  have h39n : (s[a]'ha).toNat = 39 := by rw [h39]; rfl
  have hbx := BoxAt.new w 0 ⟨#[]⟩ 0 0 rfl
  have hbel := below_new w (.cells #[.int .i64 0, .string ⟨#[]⟩, .int .i64 0, .int .i64 0] 32)
  unfold textW
  rw [hdc, List.tail_cons]
  clear hdc h39
  generalize textL (s.data.toList.drop (a + 1)) = X at *
  replace hbel : Hid _ := hbel
  replace hL : Hid _ := hL
  replace hD : Hid _ := hD
  cases X with
  | none =>
    unfold txtR at hR
    dsimp only at hR
    replace hR : Hid _ := hR
    go_enter Tryd.func21, Tryd.ntmps21
    go_wp2_with (first
      | (go_at_call 32; refine Calls.mono (hL.out _ (hT.below hbel.out)) ?_; rintro e w1 ⟨rfl, hb1⟩)
      | (go_at_call 33; refine Calls.mono (hD.out _) ?_; rintro e w2 ⟨rfl, hw2⟩; subst hw2)
      | (go_at_call 35; refine Calls.mono (hR.out _ (hT.below (below_on hbel.out hb1))) ?_; rintro e w3 ⟨rfl, hb3⟩; have hb := below_on hb1 hb3; obtain ⟨c0, c1, c2, c3, fr⟩ := hbx.below hb; have f0 := fr 0; have f1 := fr 1; have f2 := fr 2; have f3 := fr 3))
    have hW := below_on hbel.out hb
    refine bodyPost_ret (results_tok rfl _ rfl rfl rfl ((hbx.below hb).put _ _ _ _)) rfl ?_
    exact ⟨rfl, by go_grown⟩
  | some x =>
    obtain ⟨t, n⟩ := x
    unfold txtR at hR
    dsimp only at hR
    replace hR : Hid _ := hR
    go_enter Tryd.func21, Tryd.ntmps21
    go_wp2_with (first
      | (go_at_call 32; refine Calls.mono (hL.out _ (hT.below hbel.out)) ?_; rintro e w1 ⟨rfl, hb1⟩)
      | (go_at_call 33; refine Calls.mono (hD.out _) ?_; rintro e w2 ⟨rfl, hw2⟩; subst hw2)
      | (go_at_call 35; refine Calls.mono (hR.out _ (hT.below (below_on hbel.out hb1))) ?_; rintro e w3 ⟨rfl, hb3⟩; have hb := below_on hb1 hb3; obtain ⟨c0, c1, c2, c3, fr⟩ := hbx.below hb; have f0 := fr 0; have f1 := fr 1; have f2 := fr 2; have f3 := fr 3))
    have hW := below_on hbel.out hb
    refine bodyPost_ret (results_tok rfl _ rfl rfl rfl ((hbx.below hb).put _ _ _ _)) rfl ?_
    exact ⟨rfl, by go_grown⟩
set_option maxRecDepth 100000 in
set_option maxHeartbeats 2000000 in
theorem refword_sign (s : ByteArray) (hs : s.size ≤ 4096) (a : Nat) (ha : a < s.size) (h39 : ¬ s[a]'ha = 39) (hd : digB (Lib.decodeL (s.data.toList.drop a)).1 = false) (hr : runeB true (Lib.decodeL (s.data.toList.drop a)).1 = false) (w : World) (hT : Tabs w) :
    Calls Tryd.prog 21 #[.string s, .int .i64 a] w fun e w' => e = .returned (resA (signW (s.data.toList.drop a)) a) ∧ Below w.heap.size w w' := by
  have hL := fun w hT => refname_any s hs a ha w hT
  rw [name_none _ hr] at hL
  have hD := fun w => digit_any (s[a]'ha) w
  rw [← digit_head, hd] at hD
  have hR := fun w => refsign_any s hs a ha w
  have h39n : ¬ (s[a]'ha).toNat = 39 := fun e => h39 (UInt8.toNat_inj.1 e)
  have hbx := BoxAt.new w 0 ⟨#[]⟩ 0 0 rfl
  have hbel := below_new w (.cells #[.int .i64 0, .string ⟨#[]⟩, .int .i64 0, .int .i64 0] 32)
  unfold signW
  clear hd hr h39
  generalize signL (s.data.toList.drop a) = G at *
  have hE := txt_empty (k := G)
  have hGz : (txt G).size = G.length := txt_size G
  replace hbel : Hid _ := hbel
  replace hL : Hid _ := hL
  replace hD : Hid _ := hD
  replace hR : Hid _ := hR
  by_cases hm : G = []
  · rw [if_pos hm]
    subst hm
    go_enter Tryd.func21, Tryd.ntmps21
    go_wp2_with (first
      | (go_at_call 32; refine Calls.mono (hL.out _ (hT.below hbel.out)) ?_; rintro e w1 ⟨rfl, hb1⟩)
      | (go_at_call 33; refine Calls.mono (hD.out _) ?_; rintro e w2 ⟨rfl, hw2⟩; subst hw2)
      | (go_at_call 36; refine Calls.mono (hR.out _) ?_; rintro e w3 ⟨rfl, hb3⟩; have hb := below_on hb1 hb3; obtain ⟨c0, c1, c2, c3, fr⟩ := hbx.below hb; have f0 := fr 0; have f1 := fr 1; have f2 := fr 2; have f3 := fr 3))
    have hW := below_on hbel.out hb
    refine bodyPost_ret (results_tok rfl _ rfl rfl rfl ((hbx.below hb).put _ _ _ _)) rfl ?_
    exact ⟨rfl, by go_grown⟩
  · rw [if_neg hm]
    have hE2 : G.isEmpty = false := by cases G <;> simp_all
    rw [hE2] at hE
    replace hm : Hid _ := hm
    replace hE2 : Hid _ := hE2
    go_enter Tryd.func21, Tryd.ntmps21
    go_wp2_with (first
      | (go_at_call 32; refine Calls.mono (hL.out _ (hT.below hbel.out)) ?_; rintro e w1 ⟨rfl, hb1⟩)
      | (go_at_call 33; refine Calls.mono (hD.out _) ?_; rintro e w2 ⟨rfl, hw2⟩; subst hw2)
      | (go_at_call 36; refine Calls.mono (hR.out _) ?_; rintro e w3 ⟨rfl, hb3⟩; have hb := below_on hb1 hb3; obtain ⟨c0, c1, c2, c3, fr⟩ := hbx.below hb; have f0 := fr 0; have f1 := fr 1; have f2 := fr 2; have f3 := fr 3))
    have hW := below_on hbel.out hb
    refine bodyPost_ret (results_tok rfl _ rfl rfl rfl ((hbx.below hb).put _ _ _ _)) rfl ?_
    refine ⟨?_, by go_grown⟩
    unfold resA
    dsimp only
    rw [← hGz]
    rfl
set_option maxRecDepth 100000 in
theorem refword_any (s : ByteArray) (hs : s.size ≤ 4096) (a : Nat) (ha : a < s.size) (w : World) (hT : Tabs w) :
    Calls Tryd.prog 21 #[.string s, .int .i64 a] w fun e w' => e = .returned (resA (wordL (s.data.toList.drop a)) a) ∧ Below w.heap.size w w' := by
  have hdc := drop_cons s a ha
  have hne : s.data.toList.drop a ≠ [] := by rw [hdc]; simp
  unfold wordL
  by_cases h39 : (Lib.decodeL (s.data.toList.drop a)).1 = 39
  · rw [if_pos h39]
    have hh := (head_low _ hne 39 (by decide) h39).1
    rw [hdc] at hh
    exact refword_text s hs a ha (List.cons.inj hh).1 w hT
  · rw [if_neg h39]
    have hn39 : ¬ s[a]'ha = 39 := fun e => h39 (by rw [hdc, e, decodeL_low 39 _ (by decide)]; rfl)
    cases hd : digB ((Lib.decodeL (s.data.toList.drop a)).1 : Int)
    · rw [if_neg (by decide)]
      cases hr : runeB true ((Lib.decodeL (s.data.toList.drop a)).1 : Int)
      · rw [if_neg (by decide)]
        exact refword_sign s hs a ha hn39 hd hr w hT
      · rw [if_pos rfl]
        exact refword_name s hs a ha hr w hT
    · rw [if_pos rfl]
      exact refword_num s hs a ha hd w hT
end Go.Proofs.YtdnlnghgjjiajaaDoor
