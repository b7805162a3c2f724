/-
  A word, by the document.
-/
import Derived.Test.YtdnlnghgjjiajaaDoorRft
import Derived.Test.YtdnlnghgjjiajaaDoorRfd
namespace Go.Proofs.YtdnlnghgjjiajaaDoor
open Go.RowKit
set_option linter.unusedSimpArgs false
set_option linter.unusedVariables false

/-- What the document's word answers. -/
def resA (x : Wd) (a : Nat) : Value := .tuple #[tokV x.k (txt x.t) x.n (if x.e = 0 then (a : Int) else 0), .int .i64 x.len, .int .i64 x.e]
set_option maxRecDepth 100000 in
set_option maxHeartbeats 2000000 in
theorem refword_name (s : ByteArray) (hs : s.size ≤ 4096) (a : Nat) (ha : a < s.size) (hr : runeB true (Lib.decodeL (s.data.toList.drop a)).1 = true) (w : World) (hT : Tabs w) :
    Calls Tryd.prog 21 #[.string s, .int .i64 a] w fun e w' => e = .returned (resA (nameW (s.data.toList.drop a)) a) ∧ Below w.heap.size w w' := by
  have hz : s.data.toList.length = s.size := Array.length_toList
  have hL := fun w hT => refname_any s hs a ha w hT
  have hne : s.data.toList.drop a ≠ [] := fun e => by
    have := congrArg List.length e
    rw [List.length_drop] at this
    simp at this
    omega
  have hk := spanL_le (runeB false) _ (s.data.toList.drop a) (Nat.le_refl _)
  have hk1 := spanL_step (runeB false) _ hne
  have hrw : runeB false (Lib.decodeL (s.data.toList.drop a)).1 = true := by
    unfold runeB at hr ⊢
    revert hr
    cases letB (Lib.decodeL (s.data.toList.drop a)).1 || decide ((((Lib.decodeL (s.data.toList.drop a)).1 : Nat) : Int) = 95) <;> simp
  rw [if_pos hrw] at hk1
  have hpos := decodeL_pos (s.data.toList.drop a)
  have hn1 : 1 ≤ spanL (runeB false) (s.data.toList.drop a) := by omega
  unfold nameT at hL
  rw [if_pos hr] at hL
  rw [List.length_drop, hz] at hk
  unfold nameW
  rw [← extract_mid]
  clear hk1 hpos hrw hr hne
  generalize spanL (runeB false) (s.data.toList.drop a) = n at *
  have hX : (s.extract a (a + n)).size ≤ s.size := by rw [ByteArray.size_extract]; omega
  have hK := fun w => refKey_any (s.extract a (a + n)) (by unfold maxLen; omega) w
  generalize hXe : s.extract a (a + n) = X at *
  have hXt : txt X.data.toList = X := txt_of X
  clear hz
  have hbx := BoxAt.new w 0 ⟨#[]⟩ 0 0 rfl
  have hbel := below_new w (.cells #[.int .i64 0, .string ⟨#[]⟩, .int .i64 0, .int .i64 0] 32)
  generalize keyL X.data.toList = K at *
  have hE := txt_empty (k := K)
  replace hXe : Hid _ := hXe
  replace hXt : Hid _ := hXt
  replace hbel : Hid _ := hbel
  replace hL : Hid _ := hL
  replace hK : Hid _ := hK
  by_cases hm : K = []
  · rw [if_neg (fun e => e hm)]
    subst hm
    by_cases h32 : 32 < n
    · rw [if_pos h32]
      go_enter Tryd.func21, Tryd.ntmps21
      go_wp2_with (first
        | (go_at_call 32; refine Calls.mono (hL.out _ (hT.below hbel.out)) ?_; rintro e w1 ⟨rfl, hb1⟩; have hXo := hXe.out)
        | (go_at_call 14; refine Calls.mono (hK.out _) ?_; rintro e w2 ⟨rfl, hb2⟩; have hb := below_on hb1 hb2; obtain ⟨c0, c1, c2, c3, fr⟩ := hbx.below hb; have f0 := fr 0; have f1 := fr 1; have f2 := fr 2; have f3 := fr 3))
      have hW := below_on hbel.out hb
      refine bodyPost_ret (results_tok rfl _ rfl rfl rfl ((hbx.below hb).put _ _ _ _)) rfl ?_
      exact ⟨rfl, by go_grown⟩
    · rw [if_neg h32]
      go_enter Tryd.func21, Tryd.ntmps21
      go_wp2_with (first
        | (go_at_call 32; refine Calls.mono (hL.out _ (hT.below hbel.out)) ?_; rintro e w1 ⟨rfl, hb1⟩; have hXo := hXe.out)
        | (go_at_call 14; refine Calls.mono (hK.out _) ?_; rintro e w2 ⟨rfl, hb2⟩; have hb := below_on hb1 hb2; obtain ⟨c0, c1, c2, c3, fr⟩ := hbx.below hb; have f0 := fr 0; have f1 := fr 1; have f2 := fr 2; have f3 := fr 3))
      have hW := below_on hbel.out hb
      refine bodyPost_ret (results_tok rfl _ rfl rfl rfl ((hbx.below hb).put _ _ _ _)) rfl ?_
      refine ⟨?_, by go_grown⟩
      have e3 : resA ⟨1, X.data.toList, 0, n, 0⟩ a = .tuple #[tokV 1 X 0 a, .int .i64 n, .int .i64 0] := by
        unfold resA
        dsimp only
        rw [hXt.out, if_pos rfl]
      rw [e3]
      rfl
  · rw [if_pos hm]
    have hE2 : K.isEmpty = false := by cases K <;> simp_all
    rw [hE2] at hE
    replace hm : Hid _ := hm
    replace hE2 : Hid _ := hE2
    go_enter Tryd.func21, Tryd.ntmps21
    go_wp2_with (first
      | (go_at_call 32; refine Calls.mono (hL.out _ (hT.below hbel.out)) ?_; rintro e w1 ⟨rfl, hb1⟩; have hXo := hXe.out)
      | (go_at_call 14; refine Calls.mono (hK.out _) ?_; rintro e w2 ⟨rfl, hb2⟩; have hb := below_on hb1 hb2; obtain ⟨c0, c1, c2, c3, fr⟩ := hbx.below hb; have f0 := fr 0; have f1 := fr 1; have f2 := fr 2; have f3 := fr 3))
    have hW := below_on hbel.out hb
    refine bodyPost_ret (results_tok rfl _ rfl rfl rfl ((hbx.below hb).put _ _ _ _)) rfl ?_
    exact ⟨rfl, by go_grown⟩
end Go.Proofs.YtdnlnghgjjiajaaDoor
