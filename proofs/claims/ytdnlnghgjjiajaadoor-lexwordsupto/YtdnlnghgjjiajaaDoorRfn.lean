/-
  How many bytes of a name stand at a place, by the document.
-/
import Derived.Test.YtdnlnghgjjiajaaDoorRky
namespace Go.Proofs.YtdnlnghgjjiajaaDoor
open Go.RowKit
set_option linter.unusedSimpArgs false
set_option linter.unusedVariables false

/-- A name's bytes at a text's beginning; none: there is no name. -/
def nameT (l : List UInt8) : Nat := if runeB true (Lib.decodeL l).1 then spanL (runeB false) l else 0
theorem decode_at (s : ByteArray) (p : Nat) (h : p < s.size) (w : World) (hT : Tabs w) :
    Calls Tryd.prog 51 #[.string (s.extract p s.size)] w fun e w' => e = .returned (.tuple #[.int .i32 (Utf8.decode s p).1, .int .i64 (Utf8.decode s p).2]) ∧ Below w.heap.size w w' := by
  have := Tryd.utf8_DecodeRuneInString (s.extract p s.size) w hT.u8
  rwa [Lib.decodeGo_extract s p h] at this
theorem drop_cons (s : ByteArray) (p : Nat) (h : p < s.size) : s.data.toList.drop p = (s[p]'h) :: s.data.toList.drop (p + 1) := by
  have hl : p < s.data.toList.length := by rw [Array.length_toList]; exact h
  rw [List.drop_eq_getElem_cons hl]
  rfl
theorem digit_rune (s : ByteArray) (p : Nat) (h : p < s.size) : digB ((Utf8.decode s p).1 : Int) = digB ((s[p]'h).toNat : Int) := by
  have e := dig_head (s[p]'h) (s.data.toList.drop (p + 1))
  rw [← drop_cons s p h, Lib.decodeL_drop] at e
  rw [Bool.eq_iff_iff, e, digB_t]
  unfold digU
  omega
theorem runeB_weak (c : Int) (h : runeB true c = true) : runeB false c = true := by
  unfold runeB at h ⊢
  revert h
  cases letB c || decide (c = 95) <;> simp
set_option maxRecDepth 100000 in
set_option maxHeartbeats 4000000 in
theorem refname_any (s : ByteArray) (hs : s.size ≤ 4096) (a : Nat) (ha : a < s.size) (w : World) (hT : Tabs w) :
    Calls Tryd.prog 32 #[.string s, .int .i64 a] w fun e w' => e = .returned (.int .i64 (nameT (s.data.toList.drop a))) ∧ Below w.heap.size w w' := by
  have hl : s.data.toList.length = s.size := Array.length_toList
  go_enter Tryd.func32, Tryd.ntmps32
  go_wp2_with fail
  go_loopw [5] (fun v5 wr => ∃ n : Nat, v5 = .int .i64 n ∧ Below w.heap.size w wr ∧ a + n ≤ s.size ∧ (n = 0 ∨ 1 ≤ n ∧ nameT (s.data.toList.drop a) = n + spanL (runeB false) (s.data.toList.drop (a + n)))) (fun v5 _ => s.size - (intOf v5).toNat)
  case atStart => exact ⟨0, rfl, Below.refl _ _, by omega, .inl rfl⟩
  case round =>
    obtain ⟨n, rfl, hb, hle, hR⟩ := hrel
    by_cases hp : a + n < s.size
    · have hne : s.data.toList.drop (a + n) ≠ [] := fun e => by
        have := congrArg List.length e
        rw [List.length_drop, List.length_nil] at this
        omega
      have hD := fun w' hT => decode_at s (a + n) hp w' hT
      have hst := spanL_step (runeB false) (s.data.toList.drop (a + n)) hne
      have hwd := wid s (a + n) hp
      have hwl := decode_le s (a + n) hp
      have hdg := digit_rune s (a + n) hp
      rw [Lib.decodeL_drop, List.drop_drop] at hst
      have hfirst : n = 0 → nameT (s.data.toList.drop a) = if runeB true ((Utf8.decode s (a + n)).1 : Int) then (Utf8.decode s (a + n)).2 + spanL (runeB false) (s.data.toList.drop (a + n + (Utf8.decode s (a + n)).2)) else 0 := by
        intro h0
        subst h0
        rw [Nat.add_zero] at hst ⊢
        unfold nameT
        rw [Lib.decodeL_drop, hst]
        split
        · rename_i ht
          rw [if_pos (runeB_weak _ ht)]
        · rfl
      have hLt := fun w' => Letter_any ((Utf8.decode s (a + n)).1 : Int) w'
      have hDi := fun w' => digit_any (s[a + n]'hp) w'
      generalize (Utf8.decode s (a + n)).1 = C at *
      generalize (Utf8.decode s (a + n)).2 = wd at *
      replace hD : Hid _ := hD
      replace hLt : Hid _ := hLt
      replace hDi : Hid _ := hDi
      replace hR : Hid _ := hR
      replace hst : Hid _ := hst
      replace hdg : Hid _ := hdg
      replace hfirst : Hid _ := hfirst
      cases hL : letB (C : Int) || decide ((C : Int) = 95)
      · have r0 : runeB true (C : Int) = false := by simp [runeB, hL]
        have r1 : runeB false (C : Int) = digB (C : Int) := by simp [runeB, hL]
        have hLt' := hLt.out
        rw [hL] at hLt'
        replace hLt : Hid _ := hLt'
        clear hLt'
        replace r0 : Hid _ := r0
        replace r1 : Hid _ := r1
        replace hL : Hid _ := hL
        by_cases hn : n = 0
        · have hfin := hfirst.out hn
          rw [r0.out, if_neg (by decide)] at hfin
          subst hn
          replace hfin : Hid _ := hfin
          go_wp2_with (first
          | (go_at_call 51; refine Calls.mono (hD.out _ (hT.below hb)) ?_; rintro e w1 ⟨rfl, hb1⟩)
          | (go_at_call 52; refine Calls.mono (hLt.out _) ?_; rintro e w2 ⟨rfl, hw2⟩; subst hw2)
          | (go_at_call 33; refine Calls.mono (hDi.out _) ?_; rintro e w3 ⟨rfl, hw3⟩; subst hw3))
          go_returns
          rw [hfin.out]
          exact ⟨rfl, below_on hb hb1⟩
        · have hd0 : decide ((0 : Int) < (n : Int)) = true := by simp; omega
          have hRn : nameT (s.data.toList.drop a) = n + spanL (runeB false) (s.data.toList.drop (a + n)) := by
            rcases hR.out with h | h
            · exact absurd h hn
            · exact h.2
          rw [hst.out, r1.out, hdg.out] at hRn
          cases hx : digB ((s[a + n]'hp).toNat : Int)
          all_goals
            rw [hx] at hRn
            have hDi' := hDi.out
            rw [hx] at hDi'
            replace hDi : Hid _ := hDi'
            clear hDi'
            replace hRn : Hid _ := hRn
            replace hx : Hid _ := hx
          · go_wp2_with (first
            | (go_at_call 51; refine Calls.mono (hD.out _ (hT.below hb)) ?_; rintro e w1 ⟨rfl, hb1⟩)
            | (go_at_call 52; refine Calls.mono (hLt.out _) ?_; rintro e w2 ⟨rfl, hw2⟩; subst hw2)
            | (go_at_call 33; refine Calls.mono (hDi.out _) ?_; rintro e w3 ⟨rfl, hw3⟩; subst hw3))
            all_goals
              go_returns
              rw [hRn.out]
              exact ⟨by simp, below_on hb hb1⟩
          · go_wp2_with (first
            | (go_at_call 51; refine Calls.mono (hD.out _ (hT.below hb)) ?_; rintro e w1 ⟨rfl, hb1⟩)
            | (go_at_call 52; refine Calls.mono (hLt.out _) ?_; rintro e w2 ⟨rfl, hw2⟩; subst hw2)
            | (go_at_call 33; refine Calls.mono (hDi.out _) ?_; rintro e w3 ⟨rfl, hw3⟩; subst hw3))
            all_goals
              exact ⟨⟨n + wd, rfl, below_on hb hb1, by omega, .inr ⟨by omega, by rw [hRn.out, if_pos trivial, Nat.add_assoc, Nat.add_assoc]⟩⟩, by show s.size - ((n : Int) + wd).toNat < s.size - (n : Int).toNat; omega⟩
      · have r0 : runeB true (C : Int) = true := by simp [runeB, hL]
        have r1 : runeB false (C : Int) = true := runeB_weak _ r0
        have hE : ((C : Int) == 65533) = false := by
          rw [beq_eq_false_iff_ne]
          intro e
          rw [e] at hL
          exact absurd hL (by decide)
        have hLt' := hLt.out
        rw [hL] at hLt'
        replace hLt : Hid _ := hLt'
        clear hLt'
        have hnext : nameT (s.data.toList.drop a) = n + wd + spanL (runeB false) (s.data.toList.drop (a + (n + wd))) := by
          rcases hR.out with h | h
          · have hfin := hfirst.out h
            rw [r0, if_pos rfl] at hfin
            rw [hfin, h, Nat.add_zero, Nat.zero_add]
          · rw [h.2, hst.out, r1, if_pos rfl, Nat.add_assoc, Nat.add_assoc]
        replace r0 : Hid _ := r0
        replace r1 : Hid _ := r1
        replace hL : Hid _ := hL
        replace hnext : Hid _ := hnext
        go_wp2_with (first
            | (go_at_call 51; refine Calls.mono (hD.out _ (hT.below hb)) ?_; rintro e w1 ⟨rfl, hb1⟩)
            | (go_at_call 52; refine Calls.mono (hLt.out _) ?_; rintro e w2 ⟨rfl, hw2⟩; subst hw2)
            | (go_at_call 33; refine Calls.mono (hDi.out _) ?_; rintro e w3 ⟨rfl, hw3⟩; subst hw3))
        all_goals
          exact ⟨⟨n + wd, rfl, below_on hb hb1, by omega, .inr ⟨by omega, hnext.out⟩⟩, by show s.size - ((n : Int) + wd).toNat < s.size - (n : Int).toNat; omega⟩
    · have hfin : nameT (s.data.toList.drop a) = n := by
        rcases hR with h | h
        · omega
        · rw [h.2, List.drop_eq_nil_of_le (by omega), spanL_nil]; rfl
      replace hfin : Hid _ := hfin
      replace hR : Hid _ := hR
      go_wp2_with fail
      go_returns
      rw [hfin.out]
      exact ⟨rfl, hb⟩
end Go.Proofs.YtdnlnghgjjiajaaDoor
