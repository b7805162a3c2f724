/-
  Lex of the program.
-/
import Derived.Test.YtefenbonjepjgaaGreatDoorRow
namespace Go.Proofs.YtefenbonjepjgaaGreatDoor
open Go.RowKit
set_option linter.unusedSimpArgs false
set_option linter.unusedVariables false

set_option maxRecDepth 100000 in
set_option maxHeartbeats 4000000 in
theorem frame51 (t : Array Value) (hs : t.size = 51) : ∃ u : Nat → Value, t = #[u 0, u 1, u 2, u 3, u 4, u 5, u 6, u 7, u 8, u 9, u 10, u 11, u 12, u 13, u 14, u 15, u 16, u 17, u 18, u 19, u 20, u 21, u 22, u 23, u 24, u 25, u 26, u 27, u 28, u 29, u 30, u 31, u 32, u 33, u 34, u 35, u 36, u 37, u 38, u 39, u 40, u 41, u 42, u 43, u 44, u 45, u 46, u 47, u 48, u 49, u 50] := by
  refine ⟨fun i => t.getD i undef, ?_⟩
  apply Array.ext
  · rw [hs]; rfl
  · intro i h1 h2
    have e : t[i] = t.getD i undef := by simp [Array.getD, h1]
    rw [e]
    have hi : i < 51 := by omega
    clear e h1 hs
    match i, hi with
    | 0, _ => rfl
    | 1, _ => rfl
    | 2, _ => rfl
    | 3, _ => rfl
    | 4, _ => rfl
    | 5, _ => rfl
    | 6, _ => rfl
    | 7, _ => rfl
    | 8, _ => rfl
    | 9, _ => rfl
    | 10, _ => rfl
    | 11, _ => rfl
    | 12, _ => rfl
    | 13, _ => rfl
    | 14, _ => rfl
    | 15, _ => rfl
    | 16, _ => rfl
    | 17, _ => rfl
    | 18, _ => rfl
    | 19, _ => rfl
    | 20, _ => rfl
    | 21, _ => rfl
    | 22, _ => rfl
    | 23, _ => rfl
    | 24, _ => rfl
    | 25, _ => rfl
    | 26, _ => rfl
    | 27, _ => rfl
    | 28, _ => rfl
    | 29, _ => rfl
    | 30, _ => rfl
    | 31, _ => rfl
    | 32, _ => rfl
    | 33, _ => rfl
    | 34, _ => rfl
    | 35, _ => rfl
    | 36, _ => rfl
    | 37, _ => rfl
    | 38, _ => rfl
    | 39, _ => rfl
    | 40, _ => rfl
    | 41, _ => rfl
    | 42, _ => rfl
    | 43, _ => rfl
    | 44, _ => rfl
    | 45, _ => rfl
    | 46, _ => rfl
    | 47, _ => rfl
    | 48, _ => rfl
    | 49, _ => rfl
    | 50, _ => rfl
    | i + 51, hi => exact absurd hi (by omega)

/-- What Lex holds at its label. -/
structure LS (s : ByteArray) (w w' : World) (v : Value) (at' b : Nat) (acc : List Tk) : Prop where
  own : w'.ownsRow w.heap.size 52 4 v acc.length (rowK acc)
  bel : Below w.heap.size w w'
  tot : lexG b at' (s.data.toList.drop at') acc = lexG s.size 0 s.data.toList []
  fuel : s.size ≤ at' + b
  le : at' ≤ s.size
  few : acc.length ≤ at'
def LJ (s : ByteArray) (w : World) (a' : Act) (w' : World) : Prop := ∃ (v : Value) (at' b : Nat) (acc : List Tk) (t : Array Value), a' = { tmps := t, defers := [] } ∧ t.size = 51 ∧ t.getD 0 undef = .string s ∧ t.getD 5 undef = v ∧ t.getD 6 undef = .int .i64 at' ∧ LS s w w' v at' b acc

set_option maxRecDepth 100000 in
set_option maxHeartbeats 8000000 in
theorem Lex_any (s : ByteArray) (hs : s.size ≤ maxLen) (w : World) (hT : Tabs w) :
    Calls Tryz.prog 17 #[.string s] w fun e w' => ∃ v, e = .returned (.tuple #[v, .int .i64 (lexL s.data.toList).2.1, .int .i64 (lexL s.data.toList).2.2]) ∧ w'.ownsRow w.heap.size 52 4 v (lexL s.data.toList).1.length (rowK (lexL s.data.toList).1) ∧ Below w.heap.size w w' := by
  unfold maxLen at hs
  have hl : s.data.toList.length = s.size := Array.length_toList
  by_cases h4 : 4096 < s.size
  · unfold lexL
    rw [hl, if_pos h4]
    go_enter Tryz.func17, Tryz.ntmps17
    go_wp2_with fail
    refine wp_scope_back 0 (fun _ _ => False) (fun _ _ => 0) rfl ?_ ?_
    case refine_2 => exact fun a w h => h.elim
    intro _
    go_wp2_with fail
    try simp only [Exit.jump]
    change bodyPost Tryz.prog Tryz.f17 _ _ _ _
    go_returns
    exact ⟨_, rfl, own_nil w _ _ _, Below.refl _ _⟩
  · unfold lexL
    rw [hl, if_neg h4]
    go_enter Tryz.func17, Tryz.ntmps17
    go_wp2_with fail
    refine wp_scope_back 0 (LJ s w) (fun a' _ => s.size - (intOf (a'.tmps.getD 6 undef)).toNat) rfl ?_ ?_
    case refine_1 =>
      intro hX
      go_wp2_with fail
      refine wp_label ?_
      have hst : LS s w w (.slice none 0 0) 0 s.size [] := ⟨own_nil w _ _ _, Below.refl _ _, by rw [List.drop_zero], by omega, by omega, by simp⟩
      rename_i hK
      exact hK _ _ (hX _ _ ⟨_, 0, s.size, [], _, rfl, rfl, rfl, rfl, rfl, hst⟩)
    case refine_2 =>
      rintro a' w' ⟨v, at', b, acc, t, rfl, hz, g0, g5, g6, hst⟩
      obtain ⟨u, rfl⟩ := frame51 t hz
      replace g0 : u 0 = .string s := g0
      replace g5 : u 5 = v := g5
      replace g6 : u 6 = .int .i64 at' := g6
      rw [g0, g5, g6]
      clear g0 g5 g6 hz
      have hle := hst.le
      obtain ⟨i0, hi0, hz0, hz1, hz2⟩ := info_parts info52
      go_wp2_with fail
      have hXd := extract_drop s at'
      have hXz : (s.extract at' s.size).size = s.size - at' := by rw [ByteArray.size_extract]; omega
      generalize hXe : s.extract at' s.size = X at *
      have hXp : ∀ pos, X.data.toList.drop pos = s.data.toList.drop (at' + pos) := fun pos => by rw [hXd, List.drop_drop]
      replace hXp : Hid _ := hXp
      replace hst : Hid _ := hst
      replace hXe : Hid _ := hXe
      replace hi0 : Hid _ := hi0
      replace hz0 : Hid _ := hz0
      replace hz1 : Hid _ := hz1
      replace hz2 : Hid _ := hz2
      clear hXd
      go_loopw [5, 6] (fun v5 v6 wr => ∃ (pos b' : Nat), v5 = v ∧ v6 = .int .i64 at' ∧ wr.heap[w'.heap.size]? = some (.stringIter X pos) ∧ Below w'.heap.size w' wr ∧ lexG b' (at' + pos) (s.data.toList.drop (at' + pos)) acc = lexG s.size 0 s.data.toList [] ∧ s.size ≤ at' + pos + b' ∧ at' + pos ≤ s.size) (fun _ _ wr => s.size - wr.iterPos w'.heap.size)
      case atStart => exact ⟨0, b, rfl, rfl, World.iter_heap _ _ _, below_new w' _, by rw [Nat.add_zero]; exact hst.out.tot, by have := hst.out.fuel; omega, by omega⟩
      case round =>
        obtain ⟨pos, b', rfl, rfl, hit, hB, htot, hb', hpl⟩ := hrel
        by_cases hp : pos < X.size
        case neg =>
          have hnx := fun ty => Lib.run_next_end_at (P := Tryz.prog) wr w'.heap.size X pos ty hit hp
          have hnil : s.data.toList.drop (at' + pos) = [] := List.drop_eq_nil_of_le (by omega)
          rw [hnil, lex_end] at htot
          replace htot : Hid _ := htot
          go_wp2_with fail
          try simp only [Exit.jump]
          change bodyPost Tryz.prog Tryz.f17 _ _ _ _
          go_returns
          rw [← htot.out]
          exact ⟨_, rfl, own_below hst.out.own hB, below_on hst.out.bel hB⟩
        have hnx := fun ty => Lib.run_next_any_at (P := Tryz.prog) wr w'.heap.size X pos ty hit hp
        have hwd := wid X pos hp
        have hwl := decode_le X pos hp
        have hne : s.data.toList.drop (at' + pos) ≠ [] := fun e => by
          have := congrArg List.length e
          rw [List.length_drop, List.length_nil] at this
          omega
        have hdec : Lib.decodeL (s.data.toList.drop (at' + pos)) = Utf8.decode X pos := by rw [← hXp.out, Lib.decodeL_drop]
        have hit2 := Lib.iterAt_heap wr w'.heap.size X pos (pos + (Utf8.decode X pos).2) hit
        have hB2 : Below w'.heap.size w' (wr.iterAt w'.heap.size X (pos + (Utf8.decode X pos).2)) := Lib.below_iterAt hB (Nat.le_refl _) _ _
        have hpos1 : wr.iterPos w'.heap.size = pos := iterPos_of hit
        obtain ⟨b', rfl⟩ : ∃ c, b' = c + 1 := ⟨b' - 1, by omega⟩
        have hblk := fun w => isBlank_any ((Utf8.decode X pos).1 : Int) w
        have hone := blank_one (s.data.toList.drop (at' + pos)) hne
        have hbl := lex_blank b' (at' + pos) (s.data.toList.drop (at' + pos)) acc hne
        have hwo := lex_word b' (at' + pos) (s.data.toList.drop (at' + pos)) acc hne
        have hba := lex_bad b' (at' + pos) (s.data.toList.drop (at' + pos)) acc hne
        have hln := word_len (s.data.toList.drop (at' + pos)) hne
        have hYd := extract_drop s (at' + pos)
        have hYz : (s.extract (at' + pos) s.size).size ≤ 4096 := by rw [ByteArray.size_extract]; omega
        have hrw := fun w hT => readWord_any (s.extract (at' + pos) s.size) hYz (by rw [hYd]; exact hne) w hT
        rw [hYd, hdec] at hrw
        rw [hdec] at hone hbl hwo hba
        rw [List.drop_drop] at hbl hwo
        rw [List.length_drop] at hln
        generalize (Utf8.decode X pos).1 = C at *
        generalize (Utf8.decode X pos).2 = wd at *
        generalize wr.iterAt w'.heap.size X (pos + wd) = W2 at *
        clear hYd hne hdec hit hB
        cases hbk : blankB (C : Int)
        case true =>
          have h1 := hone hbk
          rw [hbl hbk] at htot
          rw [hbk] at hblk
          subst h1
          clear hone hbl hwo hba hln hrw
          replace htot : Hid _ := htot
          replace hblk : Hid _ := hblk
          replace hB2 : Hid _ := hB2
          replace hit2 : Hid _ := hit2
          replace hpos1 : Hid _ := hpos1
          replace hbk : Hid _ := hbk
          go_wp2_with (go_at_call 28; refine Calls.mono (hblk.out _) ?_; rintro e w3 ⟨rfl, hw3⟩; subst hw3)
          exact ⟨⟨pos + 1, b', rfl, rfl, hit2.out, hB2.out, htot.out, by omega, by omega⟩, by rw [iterPos_of hit2.out, hpos1.out]; omega⟩
        case false =>
          rw [hbk] at hblk
          clear hone hbl
          have hTw := fun w4 (hb : Below w'.heap.size w' w4) => hT.below (below_on hst.out.bel hb)
          generalize hYe : s.extract (at' + pos) s.size = Y at *
          generalize hX0 : wordL (s.data.toList.drop (at' + pos)) = X0 at *
          obtain ⟨k, tx, n, len, e⟩ := X0
          unfold resV tokV at hrw
          dsimp only at hrw hwo hba hln
          replace hblk : Hid _ := hblk
          replace hrw : Hid _ := hrw
          replace hTw : Hid _ := hTw
          replace hwo : Hid _ := hwo
          replace hba : Hid _ := hba
          replace hln : Hid _ := hln
          replace hX0 : Hid _ := hX0
          replace hYe : Hid _ := hYe
          replace hB2 : Hid _ := hB2
          replace hit2 : Hid _ := hit2
          replace hpos1 : Hid _ := hpos1
          by_cases he : e = 0
          · subst he
            have hbe : ((0 : Int) != 0) = false := by decide
            obtain ⟨hl1, hl2⟩ := hln.out rfl
            have hfew := hst.out.few
            have hfin := hwo.out hbk rfl
            rw [hfin] at htot
            replace hbk : Hid _ := hbk
            replace htot : Hid _ := htot
            replace hfin : Hid _ := hfin
            have hYo := hYe.out
            go_wp2_with (first
              | (go_at_call 28; refine Calls.mono (hblk.out _) ?_; rintro e1 w3 ⟨rfl, hw3⟩; subst hw3)
              | (go_at_call 29; refine Calls.mono (hrw.out _ (hTw.out _ hB2.out)) ?_; rintro e1 w4 ⟨rfl, hb4⟩; have hb4' := below_on hB2.out hb4)
              | (at_builtin; refine wpList_append_own_at _ rfl _ _ 47 rfl w.heap.size 52 i0 _ 4 40 Tryz.underlying47 hi0.out hz0.out hz1.out hz2.out rfl (by decide) _ _ _ rfl (((own_below hst.out.own hb4').alloc _).alloc _) ⟨w4.heap.size + 1, 0, none⟩ 1 1 (cellsK ⟨k, tx, n, at' + pos⟩) rfl rfl (news_two w4 ⟨k, tx, n, at' + pos⟩ _ (by simp) _) (oneK _) (by unfold maxLen; omega) (by omega) (by have := (below_on hst.out.bel hb4').size; simp; omega) ?_; intro v5 w5 ho5 hg5 hnil5 hloc5))
            have ho6 : w5.ownsRow w.heap.size 52 4 v5 (acc ++ [Tk.mk k tx n (at' + pos)]).length (rowK (acc ++ [Tk.mk k tx n (at' + pos)])) := by
              rw [← rowK_more, List.length_append]
              exact ho5
            have hbw : Below w.heap.size w w5 := below_row (below_on (below_on (below_on hst.out.bel hb4') (below_new _ _)) (below_new _ _)) hg5 (((own_below hst.out.own hb4').alloc _).alloc _) (Nat.le_refl _)
            go_step3
            refine ⟨rfl, ⟨v5, at' + pos + len, b', acc ++ [⟨k, tx, n, at' + pos⟩], _, rfl, rfl, rfl, rfl, rfl, ⟨ho6, hbw, htot.out, by omega, by omega, by rw [List.length_append]; show acc.length + 1 ≤ _; omega⟩⟩, ?_⟩
            show s.size - ((at' : Int) + pos + len).toNat < s.size - (at' : Int).toNat
            omega
          · have hbe : ((e : Int) != 0) = true := by rw [bne_iff_ne]; exact he
            have hfin := hba.out hbk he
            rw [hfin] at htot
            replace hbk : Hid _ := hbk
            replace htot : Hid _ := htot
            replace hfin : Hid _ := hfin
            replace he : Hid _ := he
            have hYo := hYe.out
            go_wp2_with (first
              | (go_at_call 28; refine Calls.mono (hblk.out _) ?_; rintro e1 w3 ⟨rfl, hw3⟩; subst hw3)
              | (go_at_call 29; refine Calls.mono (hrw.out _ (hTw.out _ hB2.out)) ?_; rintro e1 w4 ⟨rfl, hb4⟩))
            try simp only [Exit.jump]
            change bodyPost Tryz.prog Tryz.f17 _ _ _ _
            go_returns
            rw [← htot.out]
            exact ⟨_, rfl, own_nil _ _ _ _, below_on (below_on hst.out.bel (below_on hB2.out hb4)) (below_new _ _)⟩
end Go.Proofs.YtefenbonjepjgaaGreatDoor
