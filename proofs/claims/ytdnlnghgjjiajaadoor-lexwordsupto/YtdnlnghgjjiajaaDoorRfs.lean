/-
  A sign, by the document.
-/
import Derived.Test.YtdnlnghgjjiajaaDoorRfn
namespace Go.Proofs.YtdnlnghgjjiajaaDoor
open Go.RowKit
set_option linter.unusedSimpArgs false
set_option linter.unusedVariables false

def allS : List UInt8 := [40, 41, 91, 93, 45, 62, 60, 44, 58, 46, 61, 43, 42, 47, 37]
theorem find_is {α : Type} [DecidableEq α] (p : α → Bool) (x : α) : ∀ L : List α, (∀ g ∈ L, p g = decide (g = x)) → L.find? p = if x ∈ L then some x else none
  | [], _ => rfl
  | g :: L, h => by
    have hg := h g (List.mem_cons_self ..)
    rw [List.find?]
    by_cases e : g = x
    · subst e
      rw [hg, decide_eq_true rfl, if_pos (List.mem_cons_self ..)]
    · rw [hg, decide_eq_false e]
      dsimp only
      rw [find_is p x L (fun y hy => h y (List.mem_cons_of_mem _ hy))]
      by_cases hx : x ∈ L
      · rw [if_pos hx, if_pos (List.mem_cons_of_mem _ hx)]
      · rw [if_neg hx, if_neg]
        intro hc
        rcases List.mem_cons.1 hc with rfl | hc
        · exact e rfl
        · exact hx hc
theorem find_none {α : Type} (p : α → Bool) (L : List α) (h : ∀ g ∈ L, p g = false) : L.find? p = none := by
  rw [List.find?_eq_none]
  intro g hg
  rw [h g hg]
  decide
theorem ones_form : ∀ g ∈ onesL, ∃ x ∈ allS, g = [x] := by decide
theorem twos_form : ∀ g ∈ twosL, ∃ x y, g = [x, y] := by
  intro g hg
  simp [twosL] at hg
  rcases hg with rfl | rfl | rfl | rfl <;> exact ⟨_, _, rfl⟩
theorem ones_mem (a : UInt8) : [a] ∈ onesL ↔ a ∈ allS := by simp [onesL, allS]
theorem find_ones (a : UInt8) (r : List UInt8) : onesL.find? (fun g => g.isPrefixOf (a :: r)) = if a ∈ allS then some [a] else none := by
  rw [find_is (fun g => g.isPrefixOf (a :: r)) [a] onesL]
  · by_cases h : a ∈ allS
    · rw [if_pos h, if_pos ((ones_mem a).2 h)]
    · rw [if_neg h, if_neg (fun e => h ((ones_mem a).1 e))]
  · intro g hg
    obtain ⟨x, _, rfl⟩ := ones_form g hg
    rw [Bool.eq_iff_iff, decide_eq_true_eq]
    simp [List.isPrefixOf]
theorem sign_one (a : UInt8) (r : List UInt8) (h : ∀ b r', r = b :: r' → [a, b] ∉ twosL) : signL (a :: r) = if a ∈ allS then [a] else [] := by
  have h2 : twosL.find? (fun g => g.isPrefixOf (a :: r)) = none := by
    apply find_none
    intro g hg
    obtain ⟨x, y, rfl⟩ := twos_form g hg
    match r, h with
    | [], _ => simp [List.isPrefixOf]
    | b :: r', h =>
      have := h b r' rfl
      cases hp : [x, y].isPrefixOf (a :: b :: r') with
      | false => rfl
      | true =>
        simp [List.isPrefixOf] at hp
        obtain ⟨rfl, rfl⟩ := hp
        exact absurd hg this
  unfold signL signsL
  rw [List.find?_append, h2, Option.none_or, find_ones]
  split <;> rfl
theorem sign_two (a b : UInt8) (r : List UInt8) (h : [a, b] ∈ twosL) : signL (a :: b :: r) = [a, b] := by
  have h2 : twosL.find? (fun g => g.isPrefixOf (a :: b :: r)) = some [a, b] := by
    rw [find_is (fun g => g.isPrefixOf (a :: b :: r)) [a, b] twosL, if_pos h]
    intro g hg
    obtain ⟨x, y, rfl⟩ := twos_form g hg
    rw [Bool.eq_iff_iff, decide_eq_true_eq]
    simp [List.isPrefixOf]
  unfold signL signsL
  rw [List.find?_append, h2]
  rfl
set_option maxRecDepth 100000 in
theorem index_all (k : Nat) (hk : k < 15) (w : World) : (Instr.index 9 (.string ⟨#[40, 41, 91, 93, 45, 62, 60, 44, 58, 46, 61, 43, 42, 47, 37]⟩) (.int .i64 k)).run Tryd.prog w = .ok (.int .u8 (allS.getD k 0).toNat) w := by
  rcases (show k = 0 ∨ k = 1 ∨ k = 2 ∨ k = 3 ∨ k = 4 ∨ k = 5 ∨ k = 6 ∨ k = 7 ∨ k = 8 ∨ k = 9 ∨ k = 10 ∨ k = 11 ∨ k = 12 ∨ k = 13 ∨ k = 14 by omega) with rfl | rfl | rfl | rfl | rfl | rfl | rfl | rfl | rfl | rfl | rfl | rfl | rfl | rfl | rfl
  all_goals kernel_rfl
theorem extract_mid (s : ByteArray) (p n : Nat) : (s.extract p (p + n)).data.toList = (s.data.toList.drop p).take n := by
  rw [Lib.extract_data]
  congr 1
  omega
theorem txt_toList (l : List UInt8) : (txt l).toList = l := by
  rw [ByteArray.toList_eq]
  simp [txt]
theorem all_mem (k : Nat) (hk : k < 15) : allS.getD k 0 ∈ allS := by
  have hl : k < allS.length := hk
  rw [show allS.getD k 0 = allS[k] by simp [List.getD, hl]]
  exact List.getElem_mem _
theorem all_not (A : UInt8) (h : ∀ j, j < 15 → allS.getD j 0 ≠ A) : A ∉ allS := by
  intro hm
  obtain ⟨i, hi, e⟩ := List.getElem_of_mem hm
  have := h i hi
  rw [show allS.getD i 0 = allS[i] by simp [List.getD, hi]] at this
  exact this e
theorem byte_eq (a b : UInt8) : (((a.toNat : Int)) == (b.toNat : Int)) = decide (a = b) := by
  rw [Bool.eq_iff_iff, beq_iff_eq, decide_eq_true_eq]
  constructor
  · intro h
    exact UInt8.toNat_inj.1 (by omega)
  · rintro rfl; rfl
set_option maxRecDepth 100000 in
set_option maxHeartbeats 8000000 in
theorem refsign_any (s : ByteArray) (hs : s.size ≤ 4096) (a : Nat) (ha : a < s.size) (w : World) :
    Calls Tryd.prog 36 #[.string s, .int .i64 a] w fun e w' => e = .returned (.string (txt (signL (s.data.toList.drop a)))) ∧ Below w.heap.size w w' := by
  have hl : s.data.toList.length = s.size := Array.length_toList
  have hd := drop_cons s a ha
  have hX1 : s.extract a (a + 1) = txt [s[a]] := by
    have := extract_mid s a 1
    rw [hd] at this
    rw [← txt_of (s.extract a (a + 1)), this]
    rfl
  by_cases h1 : a + 1 < s.size
  · have hd1 := drop_cons s (a + 1) h1
    have hX := extract_mid s a 2
    rw [hd, hd1] at hX
    rw [show (s[a] :: s[a + 1] :: s.data.toList.drop (a + 1 + 1)).take 2 = [s[a], s[a + 1]] from rfl] at hX
    have hXt : s.extract a (a + 2) = txt [s[a], s[a + 1]] := by rw [← hX, txt_of]
    have hgo := sign_two s[a] s[a + 1] (s.data.toList.drop (a + 1 + 1))
    have hno := sign_one s[a] (s[a + 1] :: s.data.toList.drop (a + 1 + 1))
    rw [hd, hd1]
    generalize hR : s.data.toList.drop (a + 1 + 1) = R at *
    generalize hB : s[a + 1] = B at *
    clear hX hd hd1
    replace hR : Hid _ := hR
    replace hB : Hid _ := hB
    have htl := txt_toList [s[a], B]
    rw [← hXt] at htl
    replace hXt : Hid _ := hXt
    by_cases hm : [s[a], B] ∈ twosL
    · have hfin := hgo hm
      unfold twosL at hm
      have h4 : ∃ x y, [s[a], B] = [x, y] ∧ (([x, y] : List UInt8) = [60, 62] ∨ ([x, y] : List UInt8) = [60, 61] ∨ ([x, y] : List UInt8) = [62, 61] ∨ ([x, y] : List UInt8) = [46, 46]) := ⟨s[a], B, rfl, by simpa using hm⟩
      obtain ⟨x, y, e, h4⟩ := h4
      have hXo := hXt.out
      rw [e] at hXo hfin htl
      replace hXt : Hid _ := hXo
      clear hgo hno hm e hXo
      rcases h4 with h | h | h | h
      all_goals
        rw [h] at htl
        replace h : Hid _ := h
        replace hfin : Hid _ := hfin
        go_enter Tryd.func36, Tryd.ntmps36
        go_wp2_with fail
        go_returns
        rw [hfin.out, ← hXt.out]
        exact ⟨rfl, Below.refl _ _⟩
    · have hsg : signL (s[a] :: B :: R) = if s[a] ∈ allS then [s[a]] else [] := hno (fun b r' e => by
        cases e
        exact hm)
      replace hsg : Hid _ := hsg
      have n1 : ((s.extract a (a + 2)).toList == [60, 62]) = false := beq_eq_false_iff_ne.2 (fun h => hm (by rw [htl] at h; rw [h]; decide))
      have n2 : ((s.extract a (a + 2)).toList == [60, 61]) = false := beq_eq_false_iff_ne.2 (fun h => hm (by rw [htl] at h; rw [h]; decide))
      have n3 : ((s.extract a (a + 2)).toList == [62, 61]) = false := beq_eq_false_iff_ne.2 (fun h => hm (by rw [htl] at h; rw [h]; decide))
      have n4 : ((s.extract a (a + 2)).toList == [46, 46]) = false := beq_eq_false_iff_ne.2 (fun h => hm (by rw [htl] at h; rw [h]; decide))
      clear hgo hno htl
      replace hm : Hid _ := hm
      go_enter Tryd.func36, Tryd.ntmps36
      go_wp2_with fail
      go_loopw [7] (fun v7 wr => ∃ k : Nat, k ≤ 15 ∧ v7 = .int .i64 k ∧ (∀ j, j < k → allS.getD j 0 ≠ s[a]) ∧ Below w.heap.size w wr) (fun v7 _ => 15 - (intOf v7).toNat)
      case atStart => exact ⟨0, by omega, rfl, fun j hj => by omega, Below.refl _ _⟩
      case round =>
        obtain ⟨k, hk, rfl, hz, hb⟩ := hrel
        replace hz : Hid _ := hz
        by_cases hlt : k < 15
        · have hix := index_all k hlt
          have hmem := all_mem k hlt
          have hai : (a : Int) < (s.size : Int) := by omega
          generalize hA : allS.getD k 0 = A at *
          replace hA : Hid _ := hA
          replace hmem : Hid _ := hmem
          have hq := byte_eq A s[a]
          by_cases he : A = s[a]
          · rw [decide_eq_true he] at hq
            have hS := hsg.out
            rw [if_pos (he ▸ hmem.out)] at hS
            replace hS : Hid _ := hS
            replace he : Hid _ := he
            go_wp2_with fail
            go_quiet (fail)
            have hbq := below_drewN hb nq
            generalize wr.drewN nq = wq at hbq ⊢
            go_wp2_with fail
            go_returns
            rw [hS.out]
            exact ⟨rfl, hbq⟩
          · rw [decide_eq_false he] at hq
            replace he : Hid _ := he
            go_wp2_with fail
            go_quiet (fail)
            have hbq := below_drewN hb nq
            generalize wr.drewN nq = wq at hbq ⊢
            go_wp2_with fail
            exact ⟨⟨k + 1, by omega, rfl, fun j hj => by
              by_cases e : j = k
              · subst e; rw [hA.out]; exact he.out
              · exact hz.out j (by omega), hbq⟩, by show 15 - ((k : Int) + 1).toNat < 15 - (k : Int).toNat; omega⟩
        · have hS := hsg.out
          rw [if_neg (all_not s[a] (fun j hj => hz.out j (by omega)))] at hS
          replace hS : Hid _ := hS
          go_wp2_with fail
          go_returns
          rw [hS.out]
          exact ⟨rfl, hb⟩
  · have hsg : signL (s.data.toList.drop a) = if s[a] ∈ allS then [s[a]] else [] := by
      rw [hd]
      refine sign_one _ _ (fun b r' e => ?_)
      rw [List.drop_eq_nil_of_le (by omega)] at e
      cases e
    replace hsg : Hid _ := hsg
    clear hd
    go_enter Tryd.func36, Tryd.ntmps36
    go_wp2_with fail
    go_loopw [7] (fun v7 wr => ∃ k : Nat, k ≤ 15 ∧ v7 = .int .i64 k ∧ (∀ j, j < k → allS.getD j 0 ≠ s[a]) ∧ Below w.heap.size w wr) (fun v7 _ => 15 - (intOf v7).toNat)
    case atStart => exact ⟨0, by omega, rfl, fun j hj => by omega, Below.refl _ _⟩
    case round =>
      obtain ⟨k, hk, rfl, hz, hb⟩ := hrel
      replace hz : Hid _ := hz
      by_cases hlt : k < 15
      · have hix := index_all k hlt
        have hmem := all_mem k hlt
        have hai : (a : Int) < (s.size : Int) := by omega
        generalize hA : allS.getD k 0 = A at *
        replace hA : Hid _ := hA
        replace hmem : Hid _ := hmem
        have hq := byte_eq A s[a]
        by_cases he : A = s[a]
        · rw [decide_eq_true he] at hq
          have hS := hsg.out
          rw [if_pos (he ▸ hmem.out)] at hS
          replace hS : Hid _ := hS
          replace he : Hid _ := he
          go_wp2_with fail
          go_quiet (fail)
          have hbq := below_drewN hb nq
          generalize wr.drewN nq = wq at hbq ⊢
          go_wp2_with fail
          go_returns
          rw [hS.out]
          exact ⟨rfl, hbq⟩
        · rw [decide_eq_false he] at hq
          replace he : Hid _ := he
          go_wp2_with fail
          go_quiet (fail)
          have hbq := below_drewN hb nq
          generalize wr.drewN nq = wq at hbq ⊢
          go_wp2_with fail
          exact ⟨⟨k + 1, by omega, rfl, fun j hj => by
            by_cases e : j = k
            · subst e; rw [hA.out]; exact he.out
            · exact hz.out j (by omega), hbq⟩, by show 15 - ((k : Int) + 1).toNat < 15 - (k : Int).toNat; omega⟩
      · have hS := hsg.out
        rw [if_neg (all_not s[a] (fun j hj => hz.out j (by omega)))] at hS
        replace hS : Hid _ := hS
        go_wp2_with fail
        go_returns
        rw [hS.out]
        exact ⟨rfl, hb⟩
end Go.Proofs.YtdnlnghgjjiajaaDoor
