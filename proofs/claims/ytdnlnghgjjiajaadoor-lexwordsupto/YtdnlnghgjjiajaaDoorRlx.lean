/-
  A text's words, by the document.
-/
import Derived.Test.YtdnlnghgjjiajaaDoorRfv
import Derived.Test.YtdnlnghgjjiajaaDoorSam
namespace Go.Proofs.YtdnlnghgjjiajaaDoor
open Go.RowKit
set_option linter.unusedSimpArgs false
set_option linter.unusedVariables false

theorem blank_head (s : ByteArray) (p : Nat) (h : p < s.size) : blankB ((Lib.decodeL (s.data.toList.drop p)).1 : Int) = blankB ((s[p]'h).toNat : Int) := by
  rw [drop_cons s p h]
  by_cases hb : (s[p]'h).toNat < 128
  · rw [decodeL_low _ _ hb]
  · have := decodeL_high (s[p]'h) (s.data.toList.drop (p + 1)) (by omega)
    rw [Bool.eq_iff_iff, blankB_t, blankB_t]
    omega
theorem own_two {w : World} {base : Nat} {v : Value} {L : List Tk} (h : w.ownsRow base 32 4 v L.length (rowK L)) : ∃ p cap, v = .slice p L.length cap ∧ Tks2 w p L := (tks_of h).two
set_option maxRecDepth 100000 in
set_option maxHeartbeats 2000000 in
theorem refLex_any (s : ByteArray) (hs : s.size ≤ maxLen) (w : World) (hT : Tabs w) :
    Calls Tryd.prog 11 #[.string s] w fun e w' => ∃ p cap, e = .returned (.tuple #[.slice p (lexL s.data.toList).1.length cap, .int .i64 (lexL s.data.toList).2.1, .int .i64 (lexL s.data.toList).2.2]) ∧ Tks2 w' p (lexL s.data.toList).1 ∧ Below w.heap.size w w' := by
  have hz : s.data.toList.length = s.size := Array.length_toList
  unfold maxLen at hs
  obtain ⟨i0, hi0, hz0, hz1, hz2⟩ := info_parts info32
  replace hi0 : Hid _ := hi0
  replace hz0 : Hid _ := hz0
  replace hz1 : Hid _ := hz1
  replace hz2 : Hid _ := hz2
  unfold lexL
  by_cases hbig : s.size ≤ 4096
  · rw [if_neg (by omega)]
    have hW := fun a ha w hT => refword_any s hbig a ha w hT
    generalize hX : lexG s.data.toList.length 0 s.data.toList [] = X
    replace hX : Hid _ := hX
    replace hW : Hid _ := hW
    go_enter Tryd.func11, Tryd.ntmps11
    go_wp2_with fail
    go_loopw [5, 6] (fun v i wr => ∃ (b at' : Nat) (acc : List Tk), i = .int .i64 at' ∧ at' ≤ s.size ∧ s.size - at' ≤ b ∧ lexG b at' (s.data.toList.drop at') acc = X ∧ acc.length ≤ at' ∧ wr.ownsRow w.heap.size 32 4 v acc.length (rowK acc) ∧ Below w.heap.size w wr) (fun _ i _ => s.size - (intOf i).toNat)
    case atStart => exact ⟨s.data.toList.length, 0, [], rfl, by omega, by omega, by rw [List.drop_zero]; exact hX.out, Nat.le_refl _, own_nil _ _ _ _, Below.refl _ _⟩
    case round =>
      obtain ⟨b, p, acc, rfl, hp, hbb, hlx, hac, ho, hb⟩ := hrel
      have hsz := hb.size
      by_cases hlt : p < s.size
      · obtain ⟨b', rfl⟩ : ∃ b', b = b' + 1 := ⟨b - 1, by omega⟩
        have hne : s.data.toList.drop p ≠ [] := by rw [drop_cons s p hlt]; simp
        have hbh := blank_head s p hlt
        cases hbk : blankB ((s[p]'hlt).toNat : Int) with
        | true =>
          rw [lex_blank _ _ _ _ hne (hbh.trans hbk), List.drop_drop] at hlx
          have hbk2 := (blankB_t _).1 hbk
          clear hbh hbk hne
          replace hlx : Hid _ := hlx
          replace ho : Hid _ := ho
          rcases hbk2 with hc | hc | hc | hc
          all_goals (have hcn : (s[p]'hlt).toNat = _ := Int.ofNat.inj hc)
          all_goals (clear hc)
          all_goals go_wp2_with fail
          all_goals exact ⟨⟨b', p + 1, acc, rfl, by omega, by omega, hlx.out, by omega, ho.out, hb⟩, by show s.size - ((p : Int) + 1).toNat < s.size - (p : Int).toNat; omega⟩
        | false =>
          have hn32 : ¬ (s[p]'hlt).toNat = 32 := fun e => by rw [e] at hbk; exact absurd hbk (by decide)
          have hn9 : ¬ (s[p]'hlt).toNat = 9 := fun e => by rw [e] at hbk; exact absurd hbk (by decide)
          have hn10 : ¬ (s[p]'hlt).toNat = 10 := fun e => by rw [e] at hbk; exact absurd hbk (by decide)
          have hn13 : ¬ (s[p]'hlt).toNat = 13 := fun e => by rw [e] at hbk; exact absurd hbk (by decide)
          have hWp := fun w hT => hW.out p hlt w hT
          have hwl := word_len (s.data.toList.drop p) hne
          rw [List.length_drop, hz] at hwl
          by_cases he : (wordL (s.data.toList.drop p)).e = 0
          · rw [lex_word _ _ _ _ hne (hbh.trans hbk) he, List.drop_drop] at hlx
            have hwl2 := hwl he
            clear hwl
            unfold tkL at hlx
            unfold resA tokV at hWp
            rw [if_pos he, he] at hWp
            clear he hbh hbk hne
            generalize wordL (s.data.toList.drop p) = Y at *
            obtain ⟨k, tx, n, len, e⟩ := Y
            dsimp only at *
            have hTr := hT.below hb
            have hoA := fun (w4 : World) (h : Below wr.heap.size wr w4) o1 o2 => ((own_below ho h).alloc o1).alloc o2
            replace hoA : Hid _ := hoA
            replace hlx : Hid _ := hlx
            clear ho
            replace hWp : Hid _ := hWp
            go_wp2_with (first
              | (have hq := hWp.out wr hTr; (go_at_call 21); refine Calls.mono hq ?_; clear hq; rintro e1 w4 ⟨rfl, hb4⟩)
              | (at_builtin; refine wpList_append_own_at _ rfl _ _ 23 rfl w.heap.size 32 i0 _ 4 40 Tryd.underlying23 hi0.out hz0.out hz1.out hz2.out rfl (by decide) _ _ _ rfl (hoA.out _ hb4 _ _) ⟨w4.heap.size + 1, 0, none⟩ 1 1 (cellsK ⟨k, tx, n, p⟩) rfl rfl (news_two w4 ⟨k, tx, n, p⟩ _ rfl _) (oneK _) (by unfold maxLen; omega) (by omega) (by have := hb4.size; simp; omega) ?_; intro v5 w5 ho5 hg5 hnil5 hloc5))
            · rename_i hq5; exfalso; simp only [beq_iff_eq] at hq5; omega
            have ho6 : w5.ownsRow w.heap.size 32 4 v5 (acc ++ [Tk.mk k tx n p]).length (rowK (acc ++ [Tk.mk k tx n p])) := by
              rw [← rowK_more, List.length_append]
              exact ho5
            have hbw : Below w.heap.size w w5 := below_row (below_on (below_on (below_on hb hb4) (below_new _ _)) (below_new _ _)) hg5 (hoA.out _ hb4 _ _) (Nat.le_refl _)
            exact ⟨⟨b', p + len, acc ++ [⟨k, tx, n, p⟩], rfl, by omega, by omega, hlx.out, by rw [List.length_append]; show acc.length + 1 ≤ _; omega, ho6, hbw⟩, by show s.size - ((p : Int) + len).toNat < s.size - (p : Int).toNat; omega⟩
          · rw [lex_bad _ _ _ _ hne (hbh.trans hbk) he] at hlx
            unfold resA tokV at hWp
            rw [if_neg he] at hWp
            clear hwl hbh hbk hne
            generalize wordL (s.data.toList.drop p) = Y at *
            obtain ⟨k, tx, n, len, e⟩ := Y
            dsimp only at *
            have hTr := hT.below hb
            replace hlx : Hid _ := hlx
            replace ho : Hid _ := ho
            replace hWp : Hid _ := hWp
            have hbe : ((e : Int) != 0) = true := by rw [bne_iff_ne]; exact he
            go_wp2_with (have hq := hWp.out wr hTr; (go_at_call 21); refine Calls.mono hq ?_; clear hq; rintro e1 w4 ⟨rfl, hb4⟩)
            · rename_i hq5; exfalso; simp only [beq_iff_eq] at hq5; omega
            go_returns
            exact ⟨none, 0, by rw [← hlx.out]; rfl, .inl (by rw [← hlx.out]), below_on hb (below_on hb4 (below_new _ _))⟩
      · rw [List.drop_eq_nil_of_le (by omega), lex_end] at hlx
        obtain ⟨q, cap, rfl, ht⟩ := own_two ho
        replace hlx : Hid _ := hlx
        clear ho
        replace ht : Hid _ := ht
        go_wp2_with fail
        go_returns
        exact ⟨q, cap, by rw [← hlx.out]; rfl, by rw [← hlx.out]; exact ht.out, hb⟩
  · rw [if_pos (by omega)]
    go_enter Tryd.func11, Tryd.ntmps11
    go_wp2_with fail
    go_returns
    exact ⟨none, 0, rfl, .inl rfl, Below.refl _ _⟩
end Go.Proofs.YtdnlnghgjjiajaaDoor
