/-
  Parse and ParseExpr of any text.
-/
import Derived.Test.YtkcnpbckmdgfnaaGreatDoorRdp
import Derived.Test.YtkcnpbckmdgfnaaGreatDoorRow
import Derived.Test.YtkcnpbckmdgfnaaGreatDoorLaz
namespace Go.Proofs.YtkcnpbckmdgfnaaGreatDoor
open Go.ChangeShapes Go.WideShapes Go.ChangeAt Go.RowKit
set_option linter.unusedSimpArgs false
set_option linter.unusedVariables false

theorem post_letter {P : Program} {c : Code} {R : Exit → Act → World → Prop} {t : Array Value} {w : World}
    (h : ∀ (T : Array Value) (Q : Exit → Act → World → Prop), T = t → (∀ e a' w', R e a' w' → Q e a' w') → c.wp P Q { tmps := T, defers := [] } w) : c.wp P R { tmps := t, defers := [] } w := h t _ rfl fun _ _ _ x => x
theorem ta_yes (a y : Int) (w : World) : (Instr.typeAssert (.iface 109 (.agg #[.int .i64 a, .int .i64 y])) 20 109 true).run Tryz.prog w = .ok (.tuple #[.agg #[.int .i64 a, .int .i64 y], .bool true]) w := by kernel_rfl
theorem ta_no (w : World) : (Instr.typeAssert .nilIface 20 109 true).run Tryz.prog w = .ok (.tuple #[.agg #[.int .i64 0, .int .i64 0], .bool false]) w := by kernel_rfl

set_option maxRecDepth 100000 in
set_option maxHeartbeats 300000 in
theorem catch51 (ba be : Nat) (a y x z : Int) (older : List PanicEntry) (w : World) (hne : ba ≠ be) (h1 : w.cell? ⟨ba, 0, none⟩ = some (.int .i64 x)) (h2 : w.cell? ⟨be, 0, none⟩ = some (.int .i64 z)) (f1 : w.frozen? ⟨ba, 0, none⟩ = false) (f2 : w.frozen? ⟨be, 0, none⟩ = false) :
    CallsD Tryz.prog 69 #[.pointer (some ⟨ba, 0, none⟩), .pointer (some ⟨be, 0, none⟩)] (.panicking ({ v := .iface 109 (.agg #[.int .i64 a, .int .i64 y]), recovered := false } :: older)) w fun e u' w' =>
      e = .returned (.tuple #[]) ∧ u' = .panicking ({ v := .iface 109 (.agg #[.int .i64 a, .int .i64 y]), recovered := true } :: older) ∧ Only (fun k => k = ba ∨ k = be) w w' ∧ w'.cell? ⟨ba, 0, none⟩ = some (.int .i64 a) ∧ w'.cell? ⟨be, 0, none⟩ = some (.int .i64 y) := by
  refine callsD_of_wpS Tryz.func69 rfl fun c₀ cs hu => ?_
  have hta := ta_yes a y
  apply wpS_seq
  apply wpS_region
  simp [wpOpsS, go_sem, recoverD, hu, Tryz.ntmps69, Exit.thenS, hta]
  refine wpS_of_wp ?_
  refine post_letter ?_
  intro T Q hT hQ
  have hT' : T = #[.pointer (some ⟨ba, 0, none⟩), .pointer (some ⟨be, 0, none⟩), .pointer (some ⟨w.heap.size, 0, none⟩), .bool true, .tuple #[.agg #[.int .i64 a, .int .i64 y], .bool true], .iface 109 (.agg #[.int .i64 a, .int .i64 y]), .tuple #[.agg #[.int .i64 a, .int .i64 y], .bool true], .agg #[.int .i64 a, .int .i64 y], .bool true, undef, undef, undef, undef, undef] := hT.trans (by kernel_rfl)
  clear hT
  subst hT'
  replace hQ : Hid _ := hQ
  have hla : ba < w.heap.size := World.block_lt_of_cell? w _ h1
  have hle : be < w.heap.size := World.block_lt_of_cell? w _ h2
  have g1 := cell_keep (.cells #[.int .i64 a, .int .i64 y] 109) h1
  have g2 := cell_keep (.cells #[.int .i64 a, .int .i64 y] 109) h2
  replace hu : Hid _ := hu
  go_wp2_with fail
  go_region
  refine hQ.out _ _ _ ⟨rfl, _, rfl, .tuple #[], by kernel_rfl, rfl, rfl, ?_, ?_, ?_⟩
  · have o1 : Only (fun k => k = ba ∨ k = be) w (w.setCell ⟨ba, 0, none⟩ (.int .i64 a)) := ⟨rfl, rfl, rfl, by simp [World.setCell], fun k hk hn => Below.heap_setCell _ _ _ _ (fun e => hn (Or.inl e))⟩
    have o2 : Only (fun k => k = ba ∨ k = be) (w.setCell ⟨ba, 0, none⟩ (.int .i64 a)) ((w.setCell ⟨ba, 0, none⟩ (.int .i64 a)).setCell ⟨be, 0, none⟩ (.int .i64 y)) := ⟨rfl, rfl, rfl, by simp [World.setCell], fun k hk hn => Below.heap_setCell _ _ _ _ (fun e => hn (Or.inr e))⟩
    have o3 := only_new (o1.trans o2) (.cells #[.int .i64 a, .int .i64 y] 109)
    exact o3.trans (Below.only _ (by go_grown))
  · simp [go_sem]
    exact cell_keep _ (by simp [go_sem, h1, h2, hne, Ne.symm hne])
  · simp [go_sem]
    exact cell_keep _ (by simp [go_sem, h1, h2, hne, Ne.symm hne])

set_option maxRecDepth 100000 in
set_option maxHeartbeats 300000 in
theorem idle51 (ba be : Nat) (w : World) :
    CallsD Tryz.prog 69 #[.pointer (some ⟨ba, 0, none⟩), .pointer (some ⟨be, 0, none⟩)] .returning w fun e u' w' => e = .returned (.tuple #[]) ∧ u' = .returning ∧ Below w.heap.size w w' := by
  refine callsD_of_wpS Tryz.func69 rfl fun c₀ cs hu => ?_
  have hta := ta_no
  apply wpS_seq
  apply wpS_region
  simp [wpOpsS, go_sem, recoverD, hu, Tryz.ntmps69, Exit.thenS, hta]
  refine wpS_of_wp ?_
  refine post_letter ?_
  intro T Q hT hQ
  have hT' : T = #[.pointer (some ⟨ba, 0, none⟩), .pointer (some ⟨be, 0, none⟩), .pointer (some ⟨w.heap.size, 0, none⟩), .bool false, .tuple #[.agg #[.int .i64 0, .int .i64 0], .bool false], .nilIface, .tuple #[.agg #[.int .i64 0, .int .i64 0], .bool false], .agg #[.int .i64 0, .int .i64 0], .bool false, undef, undef, undef, undef, undef] := hT.trans (by kernel_rfl)
  clear hT
  subst hT'
  replace hQ : Hid _ := hQ
  replace hu : Hid _ := hu
  go_wp2_with fail
  refine hQ.out _ _ _ ⟨rfl, .returning, (by have h := hu.out; cases c₀; cases h; rfl), .tuple #[], by kernel_rfl, rfl, rfl, ?_⟩
  exact below_new _ _

end Go.Proofs.YtkcnpbckmdgfnaaGreatDoor
namespace Go.Proofs.YtkcnpbckmdgfnaaGreatDoor
open Go.RowKit
set_option linter.unusedSimpArgs false
set_option linter.unusedVariables false

set_option maxRecDepth 100000 in
set_option maxHeartbeats 4000000 in
theorem frame51 (t : Array Value) (hs : t.size = 51) : ∃ u : Nat → Value, t = #[u 0, u 1, u 2, u 3, u 4, u 5, u 6, u 7, u 8, u 9, u 10, u 11, u 12, u 13, u 14, u 15, u 16, u 17, u 18, u 19, u 20, u 21, u 22, u 23, u 24, u 25, u 26, u 27, u 28, u 29, u 30, u 31, u 32, u 33, u 34, u 35, u 36, u 37, u 38, u 39, u 40, u 41, u 42, u 43, u 44, u 45, u 46, u 47, u 48, u 49, u 50] := by
  refine ⟨fun i => t.getD i undef, ?_⟩
  apply Array.ext
  · rw [hs]; rfl
  · intro i h1 h2
    have e : t[i] = t.getD i undef := by simp [Array.getD, h1]
    rw [e]
    have hi : i < 51 := by omega
    clear e h1 hs
    match i, hi with
    | 0, _ => rfl
    | 1, _ => rfl
    | 2, _ => rfl
    | 3, _ => rfl
    | 4, _ => rfl
    | 5, _ => rfl
    | 6, _ => rfl
    | 7, _ => rfl
    | 8, _ => rfl
    | 9, _ => rfl
    | 10, _ => rfl
    | 11, _ => rfl
    | 12, _ => rfl
    | 13, _ => rfl
    | 14, _ => rfl
    | 15, _ => rfl
    | 16, _ => rfl
    | 17, _ => rfl
    | 18, _ => rfl
    | 19, _ => rfl
    | 20, _ => rfl
    | 21, _ => rfl
    | 22, _ => rfl
    | 23, _ => rfl
    | 24, _ => rfl
    | 25, _ => rfl
    | 26, _ => rfl
    | 27, _ => rfl
    | 28, _ => rfl
    | 29, _ => rfl
    | 30, _ => rfl
    | 31, _ => rfl
    | 32, _ => rfl
    | 33, _ => rfl
    | 34, _ => rfl
    | 35, _ => rfl
    | 36, _ => rfl
    | 37, _ => rfl
    | 38, _ => rfl
    | 39, _ => rfl
    | 40, _ => rfl
    | 41, _ => rfl
    | 42, _ => rfl
    | 43, _ => rfl
    | 44, _ => rfl
    | 45, _ => rfl
    | 46, _ => rfl
    | 47, _ => rfl
    | 48, _ => rfl
    | 49, _ => rfl
    | 50, _ => rfl
    | i + 51, hi => exact absurd hi (by omega)

/-- What Lex holds at its label. -/
structure LS (s : ByteArray) (w w' : World) (v : Value) (at' b : Nat) (acc : List Tk) : Prop where
  own : w'.ownsRow w.heap.size 147 4 v acc.length (rowK acc)
  bel : Below w.heap.size w w'
  tot : lexG b at' (s.data.toList.drop at') acc = lexG s.size 0 s.data.toList []
  fuel : s.size ≤ at' + b
  le : at' ≤ s.size
  few : acc.length ≤ at'
def LJ (s : ByteArray) (w : World) (a' : Act) (w' : World) : Prop := ∃ (v : Value) (at' b : Nat) (acc : List Tk) (t : Array Value), a' = { tmps := t, defers := [] } ∧ t.size = 51 ∧ t.getD 0 undef = .string s ∧ t.getD 5 undef = v ∧ t.getD 6 undef = .int .i64 at' ∧ LS s w w' v at' b acc

set_option maxRecDepth 100000 in
set_option maxHeartbeats 8000000 in
theorem Lex_any (s : ByteArray) (hs : s.size ≤ maxLen) (w : World) (hT : Tabs w) :
    Calls Tryz.prog 52 #[.string s] w fun e w' => ∃ v, e = .returned (.tuple #[v, .int .i64 (lexL s.data.toList).2.1, .int .i64 (lexL s.data.toList).2.2]) ∧ w'.ownsRow w.heap.size 147 4 v (lexL s.data.toList).1.length (rowK (lexL s.data.toList).1) ∧ Below w.heap.size w w' := by
  unfold maxLen at hs
  have hl : s.data.toList.length = s.size := Array.length_toList
  by_cases h4 : 4096 < s.size
  · unfold lexL
    rw [hl, if_pos h4]
    go_enter Tryz.func52, Tryz.ntmps52
    go_wp2_with fail
    refine wp_scope_back 0 (fun _ _ => False) (fun _ _ => 0) rfl ?_ ?_
    case refine_2 => exact fun a w h => h.elim
    intro _
    go_wp2_with fail
    try simp only [Exit.jump]
    change bodyPost Tryz.prog Tryz.f52 _ _ _ _
    go_returns
    exact ⟨_, rfl, own_nil w _ _ _, Below.refl _ _⟩
  · unfold lexL
    rw [hl, if_neg h4]
    go_enter Tryz.func52, Tryz.ntmps52
    go_wp2_with fail
    refine wp_scope_back 0 (LJ s w) (fun a' _ => s.size - (intOf (a'.tmps.getD 6 undef)).toNat) rfl ?_ ?_
    case refine_1 =>
      intro hX
      go_wp2_with fail
      refine wp_label ?_
      have hst : LS s w w (.slice none 0 0) 0 s.size [] := ⟨own_nil w _ _ _, Below.refl _ _, by rw [List.drop_zero], by omega, by omega, by simp⟩
      rename_i hK
      exact hK _ _ (hX _ _ ⟨_, 0, s.size, [], _, rfl, rfl, rfl, rfl, rfl, hst⟩)
    case refine_2 =>
      rintro a' w' ⟨v, at', b, acc, t, rfl, hz, g0, g5, g6, hst⟩
      obtain ⟨u, rfl⟩ := frame51 t hz
      replace g0 : u 0 = .string s := g0
      replace g5 : u 5 = v := g5
      replace g6 : u 6 = .int .i64 at' := g6
      rw [g0, g5, g6]
      clear g0 g5 g6 hz
      have hle := hst.le
      obtain ⟨i0, hi0, hz0, hz1, hz2⟩ := info_parts info147
      go_wp2_with fail
      have hXd := extract_drop s at'
      have hXz : (s.extract at' s.size).size = s.size - at' := by rw [ByteArray.size_extract]; omega
      generalize hXe : s.extract at' s.size = X at *
      have hXp : ∀ pos, X.data.toList.drop pos = s.data.toList.drop (at' + pos) := fun pos => by rw [hXd, List.drop_drop]
      replace hXp : Hid _ := hXp
      replace hst : Hid _ := hst
      replace hXe : Hid _ := hXe
      replace hi0 : Hid _ := hi0
      replace hz0 : Hid _ := hz0
      replace hz1 : Hid _ := hz1
      replace hz2 : Hid _ := hz2
      clear hXd
      go_loopw [5, 6] (fun v5 v6 wr => ∃ (pos b' : Nat), v5 = v ∧ v6 = .int .i64 at' ∧ wr.heap[w'.heap.size]? = some (.stringIter X pos) ∧ Below w'.heap.size w' wr ∧ lexG b' (at' + pos) (s.data.toList.drop (at' + pos)) acc = lexG s.size 0 s.data.toList [] ∧ s.size ≤ at' + pos + b' ∧ at' + pos ≤ s.size) (fun _ _ wr => s.size - wr.iterPos w'.heap.size)
      case atStart => exact ⟨0, b, rfl, rfl, World.iter_heap _ _ _, below_new w' _, by rw [Nat.add_zero]; exact hst.out.tot, by have := hst.out.fuel; omega, by omega⟩
      case round =>
        obtain ⟨pos, b', rfl, rfl, hit, hB, htot, hb', hpl⟩ := hrel
        by_cases hp : pos < X.size
        case neg =>
          have hnx := fun ty => Lib.run_next_end_at (P := Tryz.prog) wr w'.heap.size X pos ty hit hp
          have hnil : s.data.toList.drop (at' + pos) = [] := List.drop_eq_nil_of_le (by omega)
          rw [hnil, lex_end] at htot
          replace htot : Hid _ := htot
          go_wp2_with fail
          try simp only [Exit.jump]
          change bodyPost Tryz.prog Tryz.f52 _ _ _ _
          go_returns
          rw [← htot.out]
          exact ⟨_, rfl, own_below hst.out.own hB, below_on hst.out.bel hB⟩
        have hnx := fun ty => Lib.run_next_any_at (P := Tryz.prog) wr w'.heap.size X pos ty hit hp
        have hwd := wid X pos hp
        have hwl := decode_le X pos hp
        have hne : s.data.toList.drop (at' + pos) ≠ [] := fun e => by
          have := congrArg List.length e
          rw [List.length_drop, List.length_nil] at this
          omega
        have hdec : Lib.decodeL (s.data.toList.drop (at' + pos)) = Utf8.decode X pos := by rw [← hXp.out, Lib.decodeL_drop]
        have hit2 := Lib.iterAt_heap wr w'.heap.size X pos (pos + (Utf8.decode X pos).2) hit
        have hB2 : Below w'.heap.size w' (wr.iterAt w'.heap.size X (pos + (Utf8.decode X pos).2)) := Lib.below_iterAt hB (Nat.le_refl _) _ _
        have hpos1 : wr.iterPos w'.heap.size = pos := iterPos_of hit
        obtain ⟨b', rfl⟩ : ∃ c, b' = c + 1 := ⟨b' - 1, by omega⟩
        have hblk := fun w => isBlank_any ((Utf8.decode X pos).1 : Int) w
        have hone := blank_one (s.data.toList.drop (at' + pos)) hne
        have hbl := lex_blank b' (at' + pos) (s.data.toList.drop (at' + pos)) acc hne
        have hwo := lex_word b' (at' + pos) (s.data.toList.drop (at' + pos)) acc hne
        have hba := lex_bad b' (at' + pos) (s.data.toList.drop (at' + pos)) acc hne
        have hln := word_len (s.data.toList.drop (at' + pos)) hne
        have hYd := extract_drop s (at' + pos)
        have hYz : (s.extract (at' + pos) s.size).size ≤ 4096 := by rw [ByteArray.size_extract]; omega
        have hrw := fun w hT => readWord_any (s.extract (at' + pos) s.size) hYz (by rw [hYd]; exact hne) w hT
        rw [hYd, hdec] at hrw
        rw [hdec] at hone hbl hwo hba
        rw [List.drop_drop] at hbl hwo
        rw [List.length_drop] at hln
        generalize (Utf8.decode X pos).1 = C at *
        generalize (Utf8.decode X pos).2 = wd at *
        generalize wr.iterAt w'.heap.size X (pos + wd) = W2 at *
        clear hYd hne hdec hit hB
        cases hbk : blankB (C : Int)
        case true =>
          have h1 := hone hbk
          rw [hbl hbk] at htot
          rw [hbk] at hblk
          subst h1
          clear hone hbl hwo hba hln hrw
          replace htot : Hid _ := htot
          replace hblk : Hid _ := hblk
          replace hB2 : Hid _ := hB2
          replace hit2 : Hid _ := hit2
          replace hpos1 : Hid _ := hpos1
          replace hbk : Hid _ := hbk
          go_wp2_with (go_at_call 84; refine Calls.mono (hblk.out _) ?_; rintro e w3 ⟨rfl, hw3⟩; subst hw3)
          exact ⟨⟨pos + 1, b', rfl, rfl, hit2.out, hB2.out, htot.out, by omega, by omega⟩, by rw [iterPos_of hit2.out, hpos1.out]; omega⟩
        case false =>
          rw [hbk] at hblk
          clear hone hbl
          have hTw := fun w4 (hb : Below w'.heap.size w' w4) => hT.below (below_on hst.out.bel hb)
          generalize hYe : s.extract (at' + pos) s.size = Y at *
          generalize hX0 : wordL (s.data.toList.drop (at' + pos)) = X0 at *
          obtain ⟨k, tx, n, len, e⟩ := X0
          unfold resV tokV at hrw
          dsimp only at hrw hwo hba hln
          replace hblk : Hid _ := hblk
          replace hrw : Hid _ := hrw
          replace hTw : Hid _ := hTw
          replace hwo : Hid _ := hwo
          replace hba : Hid _ := hba
          replace hln : Hid _ := hln
          replace hX0 : Hid _ := hX0
          replace hYe : Hid _ := hYe
          replace hB2 : Hid _ := hB2
          replace hit2 : Hid _ := hit2
          replace hpos1 : Hid _ := hpos1
          by_cases he : e = 0
          · subst he
            have hbe : ((0 : Int) != 0) = false := by decide
            obtain ⟨hl1, hl2⟩ := hln.out rfl
            have hfew := hst.out.few
            have hfin := hwo.out hbk rfl
            rw [hfin] at htot
            replace hbk : Hid _ := hbk
            replace htot : Hid _ := htot
            replace hfin : Hid _ := hfin
            have hYo := hYe.out
            go_wp2_with (first
              | (go_at_call 84; refine Calls.mono (hblk.out _) ?_; rintro e1 w3 ⟨rfl, hw3⟩; subst hw3)
              | (go_at_call 85; refine Calls.mono (hrw.out _ (hTw.out _ hB2.out)) ?_; rintro e1 w4 ⟨rfl, hb4⟩; have hb4' := below_on hB2.out hb4)
              | (at_builtin; refine wpList_append_own_at _ rfl _ _ 105 rfl w.heap.size 147 i0 _ 4 40 Tryz.underlying105 hi0.out hz0.out hz1.out hz2.out rfl (by decide) _ _ _ rfl (((own_below hst.out.own hb4').alloc _).alloc _) ⟨w4.heap.size + 1, 0, none⟩ 1 1 (cellsK ⟨k, tx, n, at' + pos⟩) rfl rfl (news_two w4 ⟨k, tx, n, at' + pos⟩ _ (by simp) _) (oneK _) (by unfold maxLen; omega) (by omega) (by have := (below_on hst.out.bel hb4').size; simp; omega) ?_; intro v5 w5 ho5 hg5 hnil5 hloc5))
            have ho6 : w5.ownsRow w.heap.size 147 4 v5 (acc ++ [Tk.mk k tx n (at' + pos)]).length (rowK (acc ++ [Tk.mk k tx n (at' + pos)])) := by
              rw [← rowK_more, List.length_append]
              exact ho5
            have hbw : Below w.heap.size w w5 := below_row (below_on (below_on (below_on hst.out.bel hb4') (below_new _ _)) (below_new _ _)) hg5 (((own_below hst.out.own hb4').alloc _).alloc _) (Nat.le_refl _)
            go_step3
            refine ⟨rfl, ⟨v5, at' + pos + len, b', acc ++ [⟨k, tx, n, at' + pos⟩], _, rfl, rfl, rfl, rfl, rfl, ⟨ho6, hbw, htot.out, by omega, by omega, by rw [List.length_append]; show acc.length + 1 ≤ _; omega⟩⟩, ?_⟩
            show s.size - ((at' : Int) + pos + len).toNat < s.size - (at' : Int).toNat
            omega
          · have hbe : ((e : Int) != 0) = true := by rw [bne_iff_ne]; exact he
            have hfin := hba.out hbk he
            rw [hfin] at htot
            replace hbk : Hid _ := hbk
            replace htot : Hid _ := htot
            replace hfin : Hid _ := hfin
            replace he : Hid _ := he
            have hYo := hYe.out
            go_wp2_with (first
              | (go_at_call 84; refine Calls.mono (hblk.out _) ?_; rintro e1 w3 ⟨rfl, hw3⟩; subst hw3)
              | (go_at_call 85; refine Calls.mono (hrw.out _ (hTw.out _ hB2.out)) ?_; rintro e1 w4 ⟨rfl, hb4⟩))
            try simp only [Exit.jump]
            change bodyPost Tryz.prog Tryz.f52 _ _ _ _
            go_returns
            rw [← htot.out]
            exact ⟨_, rfl, own_nil _ _ _ _, below_on (below_on hst.out.bel (below_on hB2.out hb4)) (below_new _ _)⟩
end Go.Proofs.YtkcnpbckmdgfnaaGreatDoor
namespace Go.Proofs.YtkcnpbckmdgfnaaGreatDoor
open Go.ChangeShapes Go.WideShapes Go.ChangeAt Go.RowKit
set_option linter.unusedSimpArgs false
set_option linter.unusedVariables false

theorem lexG_few : ∀ (n k : Nat) (l : List UInt8) (acc : List Tk), (lexG n k l acc).1.length ≤ acc.length + n
  | 0, _, _, acc => Nat.le_refl _
  | n + 1, k, l, acc => by
    unfold lexG
    split
    · simp
    · split
      · have := lexG_few n (k + 1) (l.drop 1) acc; omega
      · split
        · have := lexG_few n (k + (wordL l).len) (l.drop (wordL l).len) (acc ++ [⟨(wordL l).k, (wordL l).t, (wordL l).n, k⟩]); simp at this; omega
        · simp
theorem lexL_few (l : List UInt8) : (lexL l).1.length ≤ 4096 := by
  unfold lexL
  split
  · simp
  · have := lexG_few l.length 0 l []; simp at this; omega
theorem words_of {w : World} {base : Nat} {v : Value} {L : List Tk} (h : w.ownsRow base 147 4 v L.length (rowK L)) :
    ∃ p cap, v = .slice p L.length cap ∧ L.length ≤ cap ∧ ∀ w' : World, (∀ k, base ≤ k → k < w.heap.size → w'.heap[k]? = w.heap[k]?) → WsAt w' w.heap.size p L := by
  have hh := h
  obtain ⟨h1, ⟨e1, e2⟩ | ⟨g, cap, cur, e1, hbg, e3, e4, _⟩⟩ := hh
  · exact ⟨none, 0, by rw [e1, e2], by omega, fun _ _ => .inl (List.length_eq_zero_iff.1 e2)⟩
  · have hg : g < w.heap.size := by
      rcases Nat.lt_or_ge g w.heap.size with h | h
      · exact h
      · rw [Array.getElem?_eq_none h] at e3; cases e3
    subst e1
    refine ⟨_, cap, rfl, e4, fun w' hw => .inr ⟨g, 0, rfl, hg, fun i hi => ?_⟩⟩
    have hk := hw g hbg hg
    have hc : ∀ q, q < 4 → w'.cell? ⟨g, i * 4 + q, none⟩ = (cellsK (L.getD i default))[q]? := fun q hq => by
      rw [show w'.cell? ⟨g, i * 4 + q, none⟩ = w.cell? ⟨g, i * 4 + q, none⟩ by simp only [World.cell?, hk], h.cellAt (i * 4 + q) (by omega), rowK_at L i q hi hq]
    simp only [Nat.zero_add]
    exact ⟨hc 0 (by omega), hc 1 (by omega), hc 2 (by omega), hc 3 (by omega)⟩
/-- The words behind a call of Lex. -/
theorem Lex_at (s : ByteArray) (hs : s.size ≤ maxLen) (w : World) (hT : Tabs w) :
    Calls Tryz.prog 52 #[.string s] w fun e w' => ∃ p cap, e = .returned (.tuple #[.slice p (lexL s.data.toList).1.length cap, .int .i64 (lexL s.data.toList).2.1, .int .i64 (lexL s.data.toList).2.2]) ∧ (lexL s.data.toList).1.length ≤ cap ∧ (∀ w'' : World, (∀ k, w.heap.size ≤ k → k < w'.heap.size → w''.heap[k]? = w'.heap[k]?) → WsAt w'' w'.heap.size p (lexL s.data.toList).1) ∧ Below w.heap.size w w' :=
  (Lex_any s hs w hT).mono fun e w' ⟨v, h1, h2, h3⟩ => by
    obtain ⟨p, cap, rfl, h5, h6⟩ := words_of h2
    exact ⟨p, cap, h1, h5, h6, h3⟩
/-- A block's cells. -/
structure Blk (w : World) (R : Nat) (vs : List Value) : Prop where
  lt : R < w.heap.size
  c : ∀ i, i < vs.length → w.cell? ⟨R, i, none⟩ = vs[i]?
  fr : ∀ j, w.frozen? ⟨R, j, none⟩ = false
theorem Blk.new (w : World) (vs : List Value) (t : TypeId) : Blk (w.alloc (.cells vs.toArray t)) w.heap.size vs :=
  ⟨by simp, fun i hi => by simp [World.cell?_alloc_new], fun j => by simp [go_sem]⟩
theorem Blk.below {w w' : World} {R b : Nat} {vs : List Value} (h : Blk w R vs) (hR : R < b) (hb : Below b w w') : Blk w' R vs :=
  ⟨Nat.lt_of_lt_of_le h.lt hb.size, fun i hi => by rw [← h.c i hi]; simp only [World.cell?, hb.block R hR], fun j => by rw [← h.fr j]; simp only [World.frozen?, hb.block R hR]⟩
theorem Blk.grown {w w' : World} {R : Nat} {vs : List Value} (h : Blk w R vs) (hb : Below w.heap.size w w') : Blk w' R vs := h.below h.lt hb
theorem Blk.only {w w' : World} {S : Nat → Prop} {R : Nat} {vs : List Value} (h : Blk w R vs) (hS : ¬ S R) (ho : Only S w w') : Blk w' R vs :=
  ⟨Nat.lt_of_lt_of_le h.lt ho.size, fun i hi => (ho.cell h.lt hS).trans (h.c i hi), fun j => (ho.frozen h.lt hS).trans (h.fr j)⟩
theorem Blk.other {w : World} {R : Nat} {vs : List Value} (h : Blk w R vs) (R' j : Nat) (v : Value) (hne : R' ≠ R) : Blk (w.setCell ⟨R', j, none⟩ v) R vs :=
  ⟨by simp [World.setCell]; exact h.lt, fun i hi => (World.cell?_setCell_other _ _ _ _ (fun e => hne (congrArg Addr.block e))).trans (h.c i hi), fun j' => (set_fr _ _ _ _).trans (h.fr j')⟩
theorem Blk.set {w : World} {R : Nat} {vs : List Value} (h : Blk w R vs) (j : Nat) (v : Value) : Blk (w.setCell ⟨R, j, none⟩ v) R (vs.set j v) :=
  ⟨by simp [World.setCell]; exact h.lt, fun i hi => by
    have hi' : i < vs.length := by simpa using hi
    rw [List.getElem?_set]
    split
    · rename_i e
      subst e
      rw [if_pos hi']
      exact set_same ((h.c j hi').trans (List.getElem?_eq_getElem hi'))
    · rename_i e
      exact (set_at _ _ _ (fun x => e x)).trans (h.c i hi'), fun j' => (set_fr _ _ _ _).trans (h.fr j')⟩
theorem Blk.drew {w : World} {R : Nat} {vs : List Value} (h : Blk w R vs) : Blk w.drew R vs := ⟨h.lt, h.c, h.fr⟩
theorem Only.imp {S S' : Nat → Prop} {w w' : World} (hS : ∀ k, S k → S' k) (h : Only S w w') : Only S' w w' := ⟨h.os, h.tape, h.output, h.size, fun k hk hn => h.block k hk (fun x => hn (hS k x))⟩
theorem Only.set {S : Nat → Prop} {a w : World} (h : Only S a w) (R j : Nat) (v : Value) (hR : S R) : Only S a (w.setCell ⟨R, j, none⟩ v) :=
  ⟨h.os, h.tape, h.output, by simp [World.setCell]; exact h.size, fun k hk hn => (Below.heap_setCell _ _ _ _ (fun e => hn (by rw [e]; exact hR))).trans (h.block k hk hn)⟩
theorem Below.by_only {S : Nat → Prop} {b : Nat} {a w w' : World} (h : Below b a w) (hz : b ≤ w.heap.size) (ho : Only S w w') (hS : ∀ k, S k → b ≤ k) : Below b a w' :=
  ⟨ho.os.trans h.os, ho.tape.trans h.tape, ho.output.trans h.output, Nat.le_trans h.size ho.size, fun k hk => (ho.block k (by omega) (fun x => by have := hS k x; omega)).trans (h.block k hk)⟩
theorem start3 {w w1 : World} (zs : List Value) (t : TypeId) (hb : Below (((w.alloc (.cells zs.toArray t)).alloc (.cells #[.int .i64 0] 3)).alloc (.cells #[.int .i64 0] 29)).heap.size (((w.alloc (.cells zs.toArray t)).alloc (.cells #[.int .i64 0] 3)).alloc (.cells #[.int .i64 0] 29)) w1) :
    Blk w1 w.heap.size zs ∧ Blk w1 (w.heap.size + 1) [.int .i64 0] ∧ Blk w1 (w.heap.size + 1 + 1) [.int .i64 0] ∧ Below w.heap.size w w1 := by
  have h1 := Blk.new w zs t
  have h2 := Blk.new (w.alloc (.cells zs.toArray t)) [.int .i64 0] 3
  have h3 := Blk.new ((w.alloc (.cells zs.toArray t)).alloc (.cells #[.int .i64 0] 3)) [.int .i64 0] 29
  have b2 := below_new (w.alloc (.cells zs.toArray t)) (.cells #[.int .i64 0] 3)
  have b3 := below_new ((w.alloc (.cells zs.toArray t)).alloc (.cells #[.int .i64 0] 3)) (.cells #[.int .i64 0] 29)
  have e2 : (w.alloc (.cells zs.toArray t)).heap.size = w.heap.size + 1 := by simp
  have e3 : ((w.alloc (.cells zs.toArray t)).alloc (.cells #[.int .i64 0] 3)).heap.size = w.heap.size + 1 + 1 := by simp
  rw [e2] at h2
  rw [e3] at h3
  refine ⟨((h1.grown b2).grown b3).grown hb, (h2.grown b3).grown hb, h3.grown hb, ?_⟩
  have b0 : Below w.heap.size w (((w.alloc (.cells zs.toArray t)).alloc (.cells #[.int .i64 0] 3)).alloc (.cells #[.int .i64 0] 29)) := by go_grown
  exact ⟨hb.os.trans b0.os, hb.tape.trans b0.tape, hb.output.trans b0.output, Nat.le_trans b0.size hb.size, fun k hk => (hb.block k (by simp; omega)).trans (b0.block k hk)⟩
/-- What a text is read as. -/
def Gives {α : Type} (w : World) (r : Res α) (z : Value) (V : α → Value → World → Prop) (e : Ending) (w' : World) : Prop :=
  Below w.heap.size w w' ∧ match r with
    | .ok x _ => ∃ v, e = .returned (.tuple #[v, .int .i64 0, .int .i64 0]) ∧ V x v w'
    | .bad a y => e = .returned (.tuple #[z, .int .i64 a, .int .i64 y])

theorem res24 {tmps : Array Value} {w : World} {R4 R5 R6 : Nat} {v0 v1 v2 v3 v4 v5 v6 v7 v8 a y : Value} (h4 : tmps.getD 4 undef = .pointer (some ⟨R4, 0, none⟩)) (h5 : tmps.getD 5 undef = .pointer (some ⟨R5, 0, none⟩)) (h6 : tmps.getD 6 undef = .pointer (some ⟨R6, 0, none⟩))
    (c0 : w.cell? ⟨R4, 0, none⟩ = some v0) (c1 : w.cell? ⟨R4, 1, none⟩ = some v1) (c2 : w.cell? ⟨R4, 2, none⟩ = some v2) (c3 : w.cell? ⟨R4, 3, none⟩ = some v3) (c4 : w.cell? ⟨R4, 4, none⟩ = some v4) (c5 : w.cell? ⟨R4, 5, none⟩ = some v5) (c6 : w.cell? ⟨R4, 6, none⟩ = some v6) (c7 : w.cell? ⟨R4, 7, none⟩ = some v7) (c8 : w.cell? ⟨R4, 8, none⟩ = some v8) (ca : w.cell? ⟨R5, 0, none⟩ = some a) (cy : w.cell? ⟨R6, 0, none⟩ = some y) :
    (results Tryz.f30 tmps).run Tryz.prog w = .ok (.tuple #[.agg #[v0, v1, v2, v3, v4, v5, v6, v7, v8], a, y]) w := by
  have h4' : tmps[4]?.getD undef = .pointer (some ⟨R4, 0, none⟩) := by simpa using h4
  have h5' : tmps[5]?.getD undef = .pointer (some ⟨R5, 0, none⟩) := by simpa using h5
  have h6' : tmps[6]?.getD undef = .pointer (some ⟨R6, 0, none⟩) := by simpa using h6
  simp [results, Tryz.results30, h4', h5', h6', go_sem, c0, c1, c2, c3, c4, c5, c6, c7, c8, ca, cy]
theorem put24 {w : World} {R : Nat} {x0 x1 x2 x3 x4 x5 x6 x7 x8 : Value} (h : Blk w R [x0, x1, x2, x3, x4, x5, x6, x7, x8]) (u0 u1 u2 u3 u4 u5 u6 u7 u8 : Value) : Blk ((((((((((w.setCell ⟨R, 0, none⟩ u0).setCell ⟨R, 1, none⟩ u1).setCell ⟨R, 2, none⟩ u2).setCell ⟨R, 3, none⟩ u3).setCell ⟨R, 4, none⟩ u4).setCell ⟨R, 5, none⟩ u5).setCell ⟨R, 6, none⟩ u6).setCell ⟨R, 7, none⟩ u7).setCell ⟨R, 8, none⟩ u8)) R [u0, u1, u2, u3, u4, u5, u6, u7, u8] := (((((((((h.set 0 u0).set 1 u1).set 2 u2).set 3 u3).set 4 u4).set 5 u5).set 6 u6).set 7 u7).set 8 u8)
theorem putx24 {w : World} {R R' : Nat} {vs : List Value} (h : Blk w R' vs) (hne : R ≠ R') (u0 u1 u2 u3 u4 u5 u6 u7 u8 : Value) : Blk ((((((((((w.setCell ⟨R, 0, none⟩ u0).setCell ⟨R, 1, none⟩ u1).setCell ⟨R, 2, none⟩ u2).setCell ⟨R, 3, none⟩ u3).setCell ⟨R, 4, none⟩ u4).setCell ⟨R, 5, none⟩ u5).setCell ⟨R, 6, none⟩ u6).setCell ⟨R, 7, none⟩ u7).setCell ⟨R, 8, none⟩ u8)) R' vs := (((((((((h.other R 0 u0 hne).other R 1 u1 hne).other R 2 u2 hne).other R 3 u3 hne).other R 4 u4 hne).other R 5 u5 hne).other R 6 u6 hne).other R 7 u7 hne).other R 8 u8 hne)
theorem puto24 {S : Nat → Prop} {a w : World} (h : Only S a w) {R : Nat} (hR : S R) (u0 u1 u2 u3 u4 u5 u6 u7 u8 : Value) : Only S a ((((((((((w.setCell ⟨R, 0, none⟩ u0).setCell ⟨R, 1, none⟩ u1).setCell ⟨R, 2, none⟩ u2).setCell ⟨R, 3, none⟩ u3).setCell ⟨R, 4, none⟩ u4).setCell ⟨R, 5, none⟩ u5).setCell ⟨R, 6, none⟩ u6).setCell ⟨R, 7, none⟩ u7).setCell ⟨R, 8, none⟩ u8)) := (((((((((h.set R 0 u0 hR).set R 1 u1 hR).set R 2 u2 hR).set R 3 u3 hR).set R 4 u4 hR).set R 5 u5 hR).set R 6 u6 hR).set R 7 u7 hR).set R 8 u8 hR)
theorem caught24 {w w2 : World} {act : Act} {a1 : Nat} {y1 a0 y0 : Int} {V : Ex → Value → World → Prop} (hd : act.defers = [{ target := .fn (.func 69) #[.pointer (some ⟨w.heap.size + 1, 0, none⟩), .pointer (some ⟨w.heap.size + 1 + 1, 0, none⟩)], args := #[] }])
    (h4 : act.tmps.getD 4 undef = .pointer (some ⟨w.heap.size, 0, none⟩)) (h5 : act.tmps.getD 5 undef = .pointer (some ⟨w.heap.size + 1, 0, none⟩)) (h6 : act.tmps.getD 6 undef = .pointer (some ⟨w.heap.size + 1 + 1, 0, none⟩))
    (hB : Below w.heap.size w w2) (G4 : Blk w2 w.heap.size [.int .i64 0, .slice none 0 0, .string ⟨#[]⟩, .string ⟨#[]⟩, .int .i64 0, .bool false, .int .i64 0, .string ⟨#[]⟩, .slice none 0 0]) (G5 : Blk w2 (w.heap.size + 1) [.int .i64 a0]) (G6 : Blk w2 (w.heap.size + 1 + 1) [.int .i64 y0]) :
    bodyPostD Tryz.prog Tryz.f30 (Gives w (.bad a1 y1) (.agg #[.int .i64 0, .slice none 0 0, .string ⟨#[]⟩, .string ⟨#[]⟩, .int .i64 0, .bool false, .int .i64 0, .string ⟨#[]⟩, .slice none 0 0]) V) (.panic [{ v := .iface 109 (refV a1 y1), recovered := false }]) act w2 := by
  show Leaves Tryz.prog Tryz.f30 act.tmps _ act.defers _ w2
  rw [hd]
  have l4 := G4.lt
  refine leaves_cons (f := 69) (args := #[.pointer (some ⟨w.heap.size + 1, 0, none⟩), .pointer (some ⟨w.heap.size + 1 + 1, 0, none⟩)]) (by simp) (by simp [go_sem]) ?_
  refine (catch51 (w.heap.size + 1) (w.heap.size + 1 + 1) a1 y1 a0 y0 [] w2 (by omega) (G5.c 0 (by simp)) (G6.c 0 (by simp)) (G5.fr 0) (G6.fr 0)).mono ?_
  rintro e u' w3 ⟨rfl, rfl, ho, ha, hy⟩
  have G := G4.only (by omega) ho
  exact ⟨.tuple #[.agg #[.int .i64 0, .slice none 0 0, .string ⟨#[]⟩, .string ⟨#[]⟩, .int .i64 0, .bool false, .int .i64 0, .string ⟨#[]⟩, .slice none 0 0], .int .i64 a1, .int .i64 y1], res24 h4 h5 h6 (G.c 0 (by simp)) (G.c 1 (by simp)) (G.c 2 (by simp)) (G.c 3 (by simp)) (G.c 4 (by simp)) (G.c 5 (by simp)) (G.c 6 (by simp)) (G.c 7 (by simp)) (G.c 8 (by simp)) ha hy, Below.by_only hB (by omega) ho (fun k hk => by omega), rfl⟩
theorem refused24 {w w5 : World} {act : Act} {a1 : Nat} {y1 : Int} {V : Ex → Value → World → Prop} (hd : act.defers = [])
    (h4 : act.tmps.getD 4 undef = .pointer (some ⟨w.heap.size, 0, none⟩)) (h5 : act.tmps.getD 5 undef = .pointer (some ⟨w.heap.size + 1, 0, none⟩)) (h6 : act.tmps.getD 6 undef = .pointer (some ⟨w.heap.size + 1 + 1, 0, none⟩))
    (hB : Below w.heap.size w w5) (G : Blk w5 w.heap.size [.int .i64 0, .slice none 0 0, .string ⟨#[]⟩, .string ⟨#[]⟩, .int .i64 0, .bool false, .int .i64 0, .string ⟨#[]⟩, .slice none 0 0]) (G5 : Blk w5 (w.heap.size + 1) [.int .i64 a1]) (G6 : Blk w5 (w.heap.size + 1 + 1) [.int .i64 y1]) :
    bodyPostD Tryz.prog Tryz.f30 (Gives w (.bad a1 y1) (.agg #[.int .i64 0, .slice none 0 0, .string ⟨#[]⟩, .string ⟨#[]⟩, .int .i64 0, .bool false, .int .i64 0, .string ⟨#[]⟩, .slice none 0 0]) V) .ret act w5.drew := by
  show Leaves Tryz.prog Tryz.f30 act.tmps _ act.defers _ w5.drew
  rw [hd]
  have G' := G.drew
  exact ⟨.tuple #[.agg #[.int .i64 0, .slice none 0 0, .string ⟨#[]⟩, .string ⟨#[]⟩, .int .i64 0, .bool false, .int .i64 0, .string ⟨#[]⟩, .slice none 0 0], .int .i64 a1, .int .i64 y1], res24 h4 h5 h6 (G'.c 0 (by simp)) (G'.c 1 (by simp)) (G'.c 2 (by simp)) (G'.c 3 (by simp)) (G'.c 4 (by simp)) (G'.c 5 (by simp)) (G'.c 6 (by simp)) (G'.c 7 (by simp)) (G'.c 8 (by simp)) (G5.drew.c 0 (by simp)) (G6.drew.c 0 (by simp)), ⟨hB.os, hB.tape, hB.output, hB.size, hB.block⟩, rfl⟩
theorem ended24 {w w5 : World} {act : Act} {x : Ex} {V : Ex → Value → World → Prop} {z u0 u1 u2 u3 u4 u5 u6 u7 u8 : Value} (hd : act.defers = [{ target := .fn (.func 69) #[.pointer (some ⟨w.heap.size + 1, 0, none⟩), .pointer (some ⟨w.heap.size + 1 + 1, 0, none⟩)], args := #[] }])
    (h4 : act.tmps.getD 4 undef = .pointer (some ⟨w.heap.size, 0, none⟩)) (h5 : act.tmps.getD 5 undef = .pointer (some ⟨w.heap.size + 1, 0, none⟩)) (h6 : act.tmps.getD 6 undef = .pointer (some ⟨w.heap.size + 1 + 1, 0, none⟩))
    (hB : Below w.heap.size w w5) (G4 : Blk w5 w.heap.size [u0, u1, u2, u3, u4, u5, u6, u7, u8]) (G5 : Blk w5 (w.heap.size + 1) [.int .i64 0]) (G6 : Blk w5 (w.heap.size + 1 + 1) [.int .i64 0]) (hV : ∀ w6, Below w5.heap.size w5 w6 → V x (.agg #[u0, u1, u2, u3, u4, u5, u6, u7, u8]) w6) :
    bodyPostD Tryz.prog Tryz.f30 (Gives w (.ok x []) z V) .ret act w5 := by
  show Leaves Tryz.prog Tryz.f30 act.tmps _ act.defers _ w5
  rw [hd]
  have l4 := G4.lt
  refine leaves_cons (f := 69) (args := #[.pointer (some ⟨w.heap.size + 1, 0, none⟩), .pointer (some ⟨w.heap.size + 1 + 1, 0, none⟩)]) (by simp) (by simp [go_sem]) ?_
  refine (idle51 (w.heap.size + 1) (w.heap.size + 1 + 1) w5).mono ?_
  rintro e u' w6 ⟨rfl, rfl, hb⟩
  have G := G4.grown hb
  exact ⟨.tuple #[.agg #[u0, u1, u2, u3, u4, u5, u6, u7, u8], .int .i64 0, .int .i64 0], res24 h4 h5 h6 (G.c 0 (by simp)) (G.c 1 (by simp)) (G.c 2 (by simp)) (G.c 3 (by simp)) (G.c 4 (by simp)) (G.c 5 (by simp)) (G.c 6 (by simp)) (G.c 7 (by simp)) (G.c 8 (by simp)) ((G5.grown hb).c 0 (by simp)) ((G6.grown hb).c 0 (by simp)), Below.by_only hB (by omega) (Below.only (fun k => w.heap.size ≤ k) hb) (fun k hk => hk), _, rfl, hV w6 hb⟩
set_option maxRecDepth 100000 in
set_option maxHeartbeats 6000000 in
theorem read24 (s : ByteArray) (hs : s.size ≤ maxLen) (w : World) (hT : Tabs w) :
    Calls Tryz.prog 30 #[.string s, .func (.func 31) #[] #[]] w (Gives w (parseEL s.data.toList) (.agg #[.int .i64 0, .slice none 0 0, .string ⟨#[]⟩, .string ⟨#[]⟩, .int .i64 0, .bool false, .int .i64 0, .string ⟨#[]⟩, .slice none 0 0]) (IsEx w.heap.size)) := by
  have hmf : ∀ (fn : Fn) (first cap : Array Value) (w : World), (Instr.makeFunc fn first cap).run Tryz.prog w = .ok (.func fn first cap) w := fun _ _ _ _ => rfl
  have b0 : Below w.heap.size w (((w.alloc (.cells #[.int .i64 0, .slice none 0 0, .string ⟨#[]⟩, .string ⟨#[]⟩, .int .i64 0, .bool false, .int .i64 0, .string ⟨#[]⟩, .slice none 0 0] 39)).alloc (.cells #[.int .i64 0] 3)).alloc (.cells #[.int .i64 0] 29)) := by go_grown
  have hL := fun (_ : Unit) => Lex_at s hs (((w.alloc (.cells #[.int .i64 0, .slice none 0 0, .string ⟨#[]⟩, .string ⟨#[]⟩, .int .i64 0, .bool false, .int .i64 0, .string ⟨#[]⟩, .slice none 0 0] 39)).alloc (.cells #[.int .i64 0] 3)).alloc (.cells #[.int .i64 0] 29)) (hT.below b0)
  have hl : s.data.toList.length = s.size := Array.length_toList
  generalize hF : parseEL s.data.toList = F
  unfold parseEL at hF
  rw [hl] at hF
  have hfew := lexL_few s.data.toList
  generalize lexL s.data.toList = Y at *
  obtain ⟨L, a, y⟩ := Y
  dsimp only at hL hF hfew
  replace hL : Hid _ := hL
  go_enter_defers Tryz.func30, Tryz.ntmps30
  go_upto_region 2 with ((have hh := hL.out (); go_at_call 52; (with_reducible refine Calls.mono hh ?_); clear hh hL; rintro e w1 ⟨p, cap, rfl, hcap, hws, hb1⟩; obtain ⟨B4, B5, B6, hb⟩ := start3 [.int .i64 0, .slice none 0 0, .string ⟨#[]⟩, .string ⟨#[]⟩, .int .i64 0, .bool false, .int .i64 0, .string ⟨#[]⟩, .slice none 0 0] 39 hb1; have c5 : w1.cell? ⟨w.heap.size + 1, 0, none⟩ = some (.int .i64 0) := (B5.c 0 (by decide)); have c6 : w1.cell? ⟨w.heap.size + 1 + 1, 0, none⟩ = some (.int .i64 0) := (B6.c 0 (by decide)); have f5 := B5.fr 0; have f6 := B6.fr 0))
  have hfz : ∀ j, w1.frozen? ⟨w.heap.size, j, none⟩ = false := B4.fr
  have D4 := (B4.other (w.heap.size + 1) 0 (.int .i64 a) (by omega)).other (w.heap.size + 1 + 1) 0 (.int .i64 y) (by omega)
  have D5 := (B5.set 0 (.int .i64 a)).other (w.heap.size + 1 + 1) 0 (.int .i64 y) (by omega)
  have D6 := (B6.other (w.heap.size + 1) 0 (.int .i64 a) (by omega)).set 0 (.int .i64 y)
  have hZ := (hb.setCell (p := ⟨w.heap.size + 1, 0, none⟩) (Nat.le_succ _) (.int .i64 a)).setCell (p := ⟨w.heap.size + 1 + 1, 0, none⟩) (by show _ ≤ _ + 1 + 1; omega) (.int .i64 y)
  have hz2 : ((w1.setCell ⟨w.heap.size + 1, 0, none⟩ (.int .i64 a)).setCell ⟨w.heap.size + 1 + 1, 0, none⟩ (.int .i64 y)).heap.size = w1.heap.size := by simp [World.setCell]
  have hws2 : ∀ o : Obj, WsAt (((w1.setCell ⟨w.heap.size + 1, 0, none⟩ (.int .i64 a)).setCell ⟨w.heap.size + 1 + 1, 0, none⟩ (.int .i64 y)).alloc o) w1.heap.size p L := fun o => hws _ fun k h1 h2 => by
    have h1' : w.heap.size + 3 ≤ k := by simpa using h1
    rw [(below_new _ o).block k (by rw [hz2]; exact h2), Below.heap_setCell _ _ _ _ (by show k ≠ w.heap.size + 1 + 1; omega), Below.heap_setCell _ _ _ _ (by show k ≠ w.heap.size + 1; omega)]
  rw [← hz2] at hws2
  clear hb hb1 hws B4 B5 B6 c5 c6 f5 f6 hz2 hfz b0
  generalize (w1.setCell ⟨w.heap.size + 1, 0, none⟩ (.int .i64 a)).setCell ⟨w.heap.size + 1 + 1, 0, none⟩ (.int .i64 y) = W at *
  have z0 : W.cell? ⟨w.heap.size, 0, none⟩ = some (.int .i64 0) := D4.c 0 (by decide)
  have z1 : W.cell? ⟨w.heap.size, 1, none⟩ = some (.slice none 0 0) := D4.c 1 (by decide)
  have z2 : W.cell? ⟨w.heap.size, 2, none⟩ = some (.string ⟨#[]⟩) := D4.c 2 (by decide)
  have z3 : W.cell? ⟨w.heap.size, 3, none⟩ = some (.string ⟨#[]⟩) := D4.c 3 (by decide)
  have z4 : W.cell? ⟨w.heap.size, 4, none⟩ = some (.int .i64 0) := D4.c 4 (by decide)
  have z5 : W.cell? ⟨w.heap.size, 5, none⟩ = some (.bool false) := D4.c 5 (by decide)
  have z6 : W.cell? ⟨w.heap.size, 6, none⟩ = some (.int .i64 0) := D4.c 6 (by decide)
  have z7 : W.cell? ⟨w.heap.size, 7, none⟩ = some (.string ⟨#[]⟩) := D4.c 7 (by decide)
  have z8 : W.cell? ⟨w.heap.size, 8, none⟩ = some (.slice none 0 0) := D4.c 8 (by decide)
  have xa : W.cell? ⟨w.heap.size + 1, 0, none⟩ = some (.int .i64 a) := D5.c 0 (by simp)
  have xy : W.cell? ⟨w.heap.size + 1 + 1, 0, none⟩ = some (.int .i64 y) := D6.c 0 (by simp)
  have l4 := D4.lt
  have l6 := D6.lt
  replace D5 : Blk W (w.heap.size + 1) [.int .i64 a] := D5
  replace D6 : Blk W (w.heap.size + 1 + 1) [.int .i64 y] := D6
  have x4 := D4.fr
  have x5 := D5.fr
  have x6 := D6.fr
  by_cases hy : y = 0
  · subst hy
    rw [if_pos rfl] at hF
    have hR : Rd (W.alloc (.cells #[.slice p L.length cap, .int .i64 s.size, .int .i64 0] 112)) W.heap.size s.size 0 L := ⟨⟨p, cap, by simp [go_sem], hcap, hws2 _⟩, by simp [go_sem], by simp [go_sem], fun j => by simp [go_sem], hfew, by omega⟩
    have C4 := D4.grown (below_new W (.cells #[.slice p L.length cap, .int .i64 s.size, .int .i64 0] 112))
    have C5 := D5.grown (below_new W (.cells #[.slice p L.length cap, .int .i64 s.size, .int .i64 0] 112))
    have C6 := D6.grown (below_new W (.cells #[.slice p L.length cap, .int .i64 s.size, .int .i64 0] 112))
    have oW : Only (fun k => w.heap.size ≤ k ∧ k ≤ W.heap.size) W (W.alloc (.cells #[.slice p L.length cap, .int .i64 s.size, .int .i64 0] 112)) := Below.only _ (below_new _ _)
    have hE := fun (_ : Unit) => (lay_reads W.heap.size s.size (L.length + 1)).2.2 _ 0 L (Nat.lt_succ_self _) hR
    clear hws2
    cases hr : (lay s.size (L.length + 1)).2.2 0 L with
    | bad a1 y1 =>
      rw [hr] at hE
      rw [show exprL s.size L = _ from hr] at hF
      have hF' : Res.bad a1 y1 = F := hF
      subst hF'
      replace hE : Hid _ := hE
      go_wp2_with (go_at_call 31; refine Calls.mono (hE.out ()) ?_; rintro e w2 ⟨ho, rfl⟩)
      have ho' := Only.imp (S' := fun k => w.heap.size ≤ k ∧ k ≤ W.heap.size) (fun k hk => ⟨by omega, by omega⟩) ho
      exact caught24 rfl rfl rfl rfl (Below.by_only (Below.by_only hZ (by omega) oW (fun k hk => hk.1)) (by simp; omega) ho' (fun k hk => hk.1)) (C4.only (by omega) ho) (C5.only (by omega) ho) (C6.only (by omega) ho)
    | ok x M =>
      rw [hr] at hE
      rw [show exprL s.size L = _ from hr] at hF
      have hF' : (if M = [] then Res.ok x [] else .bad (placeL s.size M) 81) = F := hF
      clear hF
      replace hE : Hid _ := hE
      go_upto_region 7 with ((have hh := hE.out (); go_at_call 31; (with_reducible refine Calls.mono hh ?_); clear hh hE; rintro e w2 ⟨ho, v, rfl, ⟨sp, sn, sc, rfl, hx⟩, hr2⟩; skip))
      have ho' := Only.imp (S' := fun k => w.heap.size ≤ k ∧ k ≤ W.heap.size) (fun k hk => ⟨by omega, by omega⟩) ho
      have hZ2 := Below.by_only (Below.by_only hZ (by omega) oW (fun k hk => hk.1)) (by simp; omega) ho' (fun k hk => hk.1)
      have l2 := hr2.lt
      have hr3 := hr2.below (below_new w2 (.cells #[.int .i64 (opE x), .slice sp sn sc, .string (txt (nmE x)), .string (txt (prE x)), .int .i64 (kE x), .bool (bE x), .int .i64 (nE x), .string (txt (tE x)), .slice none 0 0] 39))
      have hM2 := fun (_ : Unit) => mustEnd_any hr3
      have B9 := Blk.new w2 [.int .i64 (opE x), .slice sp sn sc, .string (txt (nmE x)), .string (txt (prE x)), .int .i64 (kE x), .bool (bE x), .int .i64 (nE x), .string (txt (tE x)), .slice none 0 0] 39
      have E4 := (C4.only (by omega) ho).grown (below_new w2 (.cells #[.int .i64 (opE x), .slice sp sn sc, .string (txt (nmE x)), .string (txt (prE x)), .int .i64 (kE x), .bool (bE x), .int .i64 (nE x), .string (txt (tE x)), .slice none 0 0] 39))
      have E5 := (C5.only (by omega) ho).grown (below_new w2 (.cells #[.int .i64 (opE x), .slice sp sn sc, .string (txt (nmE x)), .string (txt (prE x)), .int .i64 (kE x), .bool (bE x), .int .i64 (nE x), .string (txt (tE x)), .slice none 0 0] 39))
      have E6 := (C6.only (by omega) ho).grown (below_new w2 (.cells #[.int .i64 (opE x), .slice sp sn sc, .string (txt (nmE x)), .string (txt (prE x)), .int .i64 (kE x), .bool (bE x), .int .i64 (nE x), .string (txt (tE x)), .slice none 0 0] 39))
      have o2 : Only (fun k => w.heap.size ≤ k ∧ k ≤ W.heap.size) w2 (w2.alloc (.cells #[.int .i64 (opE x), .slice sp sn sc, .string (txt (nmE x)), .string (txt (prE x)), .int .i64 (kE x), .bool (bE x), .int .i64 (nE x), .string (txt (tE x)), .slice none 0 0] 39)) := Below.only _ (below_new _ _)
      have hZ3 := Below.by_only hZ2 (by omega) o2 (fun k hk => hk.1)
      by_cases hM : M = []
      · rw [if_pos hM] at hF' hM2
        subst hF'
        replace hM2 : Hid _ := hM2
        go_upto_region 8 with ((have hh := hM2.out (); go_at_call 54; (with_reducible refine Calls.mono hh ?_); clear hh hM2; rintro e w3 ⟨ho3, v3', rfl, hv3, hr4⟩))
        have ho3' := Only.imp (S' := fun k => w.heap.size ≤ k ∧ k ≤ W.heap.size) (fun k hk => ⟨by omega, by omega⟩) ho3
        have hZ4 := Below.by_only hZ3 (by simp; omega) ho3' (fun k hk => hk.1)
        have H4 := E4.only (by omega) ho3
        have H5 := E5.only (by omega) ho3
        have H6 := E6.only (by omega) ho3
        have H9 := B9.only (by omega) ho3
        have q40 : w3.cell? ⟨w.heap.size, 0, none⟩ = some (.int .i64 0) := H4.c 0 (by decide)
        have q90 : w3.cell? ⟨w2.heap.size, 0, none⟩ = some (.int .i64 (opE x)) := H9.c 0 (by simp)
        have q41 : w3.cell? ⟨w.heap.size, 1, none⟩ = some (.slice none 0 0) := H4.c 1 (by decide)
        have q91 : w3.cell? ⟨w2.heap.size, 1, none⟩ = some (.slice sp sn sc) := H9.c 1 (by simp)
        have q42 : w3.cell? ⟨w.heap.size, 2, none⟩ = some (.string ⟨#[]⟩) := H4.c 2 (by decide)
        have q92 : w3.cell? ⟨w2.heap.size, 2, none⟩ = some (.string (txt (nmE x))) := H9.c 2 (by simp)
        have q43 : w3.cell? ⟨w.heap.size, 3, none⟩ = some (.string ⟨#[]⟩) := H4.c 3 (by decide)
        have q93 : w3.cell? ⟨w2.heap.size, 3, none⟩ = some (.string (txt (prE x))) := H9.c 3 (by simp)
        have q44 : w3.cell? ⟨w.heap.size, 4, none⟩ = some (.int .i64 0) := H4.c 4 (by decide)
        have q94 : w3.cell? ⟨w2.heap.size, 4, none⟩ = some (.int .i64 (kE x)) := H9.c 4 (by simp)
        have q45 : w3.cell? ⟨w.heap.size, 5, none⟩ = some (.bool false) := H4.c 5 (by decide)
        have q95 : w3.cell? ⟨w2.heap.size, 5, none⟩ = some (.bool (bE x)) := H9.c 5 (by simp)
        have q46 : w3.cell? ⟨w.heap.size, 6, none⟩ = some (.int .i64 0) := H4.c 6 (by decide)
        have q96 : w3.cell? ⟨w2.heap.size, 6, none⟩ = some (.int .i64 (nE x)) := H9.c 6 (by simp)
        have q47 : w3.cell? ⟨w.heap.size, 7, none⟩ = some (.string ⟨#[]⟩) := H4.c 7 (by decide)
        have q97 : w3.cell? ⟨w2.heap.size, 7, none⟩ = some (.string (txt (tE x))) := H9.c 7 (by simp)
        have q48 : w3.cell? ⟨w.heap.size, 8, none⟩ = some (.slice none 0 0) := H4.c 8 (by decide)
        have q98 : w3.cell? ⟨w2.heap.size, 8, none⟩ = some (.slice none 0 0) := H9.c 8 (by simp)
        have q5 : w3.cell? ⟨w.heap.size + 1, 0, none⟩ = some (.int .i64 a) := H5.c 0 (by simp)
        have q6 : w3.cell? ⟨w.heap.size + 1 + 1, 0, none⟩ = some (.int .i64 0) := H6.c 0 (by simp)
        have r4 := H4.fr
        have r5 := H5.fr
        have r6 := H6.fr
        have o3 := puto24 (Only.refl (fun k => w.heap.size ≤ k ∧ k ≤ W.heap.size) w3) (R := w.heap.size) ⟨Nat.le_refl _, by omega⟩ (.int .i64 (opE x)) (.slice sp sn sc) (.string (txt (nmE x))) (.string (txt (prE x))) (.int .i64 (kE x)) (.bool (bE x)) (.int .i64 (nE x)) (.string (txt (tE x))) (.slice none 0 0)
        have o4 := (o3.set (w.heap.size + 1) 0 (.int .i64 0) ⟨by omega, by omega⟩).set (w.heap.size + 1 + 1) 0 (.int .i64 0) ⟨by omega, by omega⟩
        have G4 := ((put24 H4 (.int .i64 (opE x)) (.slice sp sn sc) (.string (txt (nmE x))) (.string (txt (prE x))) (.int .i64 (kE x)) (.bool (bE x)) (.int .i64 (nE x)) (.string (txt (tE x))) (.slice none 0 0)).other (w.heap.size + 1) 0 (.int .i64 0) (by omega)).other (w.heap.size + 1 + 1) 0 (.int .i64 0) (by omega)
        have G5 : Blk _ _ [.int .i64 0] := ((putx24 H5 (R := w.heap.size) (by omega) (.int .i64 (opE x)) (.slice sp sn sc) (.string (txt (nmE x))) (.string (txt (prE x))) (.int .i64 (kE x)) (.bool (bE x)) (.int .i64 (nE x)) (.string (txt (tE x))) (.slice none 0 0)).set 0 (.int .i64 0)).other (w.heap.size + 1 + 1) 0 (.int .i64 0) (by omega)
        have G6 : Blk _ _ [.int .i64 0] := ((putx24 H6 (R := w.heap.size) (by omega) (.int .i64 (opE x)) (.slice sp sn sc) (.string (txt (nmE x))) (.string (txt (prE x))) (.int .i64 (kE x)) (.bool (bE x)) (.int .i64 (nE x)) (.string (txt (tE x))) (.slice none 0 0)).other (w.heap.size + 1) 0 (.int .i64 0) (by omega)).set 0 (.int .i64 0)
        have l3 := H4.lt
        have hz1 : (W.alloc (.cells #[.slice p L.length cap, .int .i64 s.size, .int .i64 0] 112)).heap.size = W.heap.size + 1 := by simp
        have oT := (o2.trans ho3').trans o4
        have hB5 := Below.by_only hZ4 (by omega) o4 (fun k hk => hk.1)
        replace oT : Hid _ := oT
        replace hB5 : Hid _ := hB5
        replace G4 : Hid _ := G4
        replace G5 : Hid _ := G5
        replace G6 : Hid _ := G6
        replace hx : Hid _ := hx
        clear o3 o4 hZ4 hZ3 hZ2 hZ oW o2 ho ho' ho3 ho3' B9 E4 E5 E6 C4 C5 C6 D4 D5 D6
        go_wp2_with fail
        refine ended24 rfl rfl rfl rfl hB5.out G4.out G5.out G6.out fun w6 hb6 => ?_
        have oU := oT.out.trans (Below.only _ hb6)
        have keep : ∀ g, (W.alloc (.cells #[.slice p L.length cap, .int .i64 s.size, .int .i64 0] 112)).heap.size ≤ g → g < w2.heap.size → w6.heap[g]? = w2.heap[g]? := fun g hg hl => oU.block g hl (fun h => by omega)
        have weak : ∀ g, (W.alloc (.cells #[.slice p L.length cap, .int .i64 s.size, .int .i64 0] 112)).heap.size ≤ g → w.heap.size ≤ g := fun g hg => by omega
        exact ⟨_, _, _, rfl, ExAt.weakS weak _ _ (ExAt.same keep _ _ hx.out)⟩
      · rw [if_neg hM] at hF' hM2
        subst hF'
        replace hM2 : Hid _ := hM2
        go_wp2_with (go_at_call 54; refine Calls.mono (hM2.out ()) ?_; rintro e w3 ⟨ho3, rfl⟩)
        have ho3' := Only.imp (S' := fun k => w.heap.size ≤ k ∧ k ≤ W.heap.size) (fun k hk => ⟨by omega, by omega⟩) ho3
        exact caught24 rfl rfl rfl rfl (Below.by_only hZ3 (by simp; omega) ho3' (fun k hk => hk.1)) (E4.only (by omega) ho3) (E5.only (by omega) ho3) (E6.only (by omega) ho3)
  rw [if_neg hy] at hF
  subst hF
  replace hws2 : Hid _ := hws2
  go_wp2_with fail
  go_region
  go_wp2_with fail
  have o1 := puto24 (Only.refl (fun k => w.heap.size ≤ k ∧ k ≤ W.heap.size) W) (R := w.heap.size) ⟨Nat.le_refl _, by omega⟩ (.int .i64 0) (.slice none 0 0) (.string ⟨#[]⟩) (.string ⟨#[]⟩) (.int .i64 0) (.bool false) (.int .i64 0) (.string ⟨#[]⟩) (.slice none 0 0)
  have o2 := (o1.set (w.heap.size + 1) 0 (.int .i64 a) ⟨by omega, by omega⟩).set (w.heap.size + 1 + 1) 0 (.int .i64 y) ⟨by omega, by omega⟩
  have hB := (Below.by_only hZ (by omega) o2 (fun k hk => hk.1))
  have G4 := ((put24 D4 (.int .i64 0) (.slice none 0 0) (.string ⟨#[]⟩) (.string ⟨#[]⟩) (.int .i64 0) (.bool false) (.int .i64 0) (.string ⟨#[]⟩) (.slice none 0 0)).other (w.heap.size + 1) 0 (.int .i64 a) (by omega)).other (w.heap.size + 1 + 1) 0 (.int .i64 y) (by omega)
  have G5 : Blk _ _ [.int .i64 a] := ((putx24 D5 (R := w.heap.size) (by omega) (.int .i64 0) (.slice none 0 0) (.string ⟨#[]⟩) (.string ⟨#[]⟩) (.int .i64 0) (.bool false) (.int .i64 0) (.string ⟨#[]⟩) (.slice none 0 0)).set 0 (.int .i64 a)).other (w.heap.size + 1 + 1) 0 (.int .i64 y) (by omega)
  have G6 : Blk _ _ [.int .i64 y] := ((putx24 D6 (R := w.heap.size) (by omega) (.int .i64 0) (.slice none 0 0) (.string ⟨#[]⟩) (.string ⟨#[]⟩) (.int .i64 0) (.bool false) (.int .i64 0) (.string ⟨#[]⟩) (.slice none 0 0)).other (w.heap.size + 1) 0 (.int .i64 a) (by omega)).set 0 (.int .i64 y)
  exact refused24 rfl rfl rfl rfl hB G4 G5 G6

theorem put18 {w : World} {R : Nat} {x0 x1 x2 x3 x4 x5 : Value} (h : Blk w R [x0, x1, x2, x3, x4, x5]) (u0 u1 u2 u3 u4 u5 : Value) : Blk (((((((w.setCell ⟨R, 0, none⟩ u0).setCell ⟨R, 1, none⟩ u1).setCell ⟨R, 2, none⟩ u2).setCell ⟨R, 3, none⟩ u3).setCell ⟨R, 4, none⟩ u4).setCell ⟨R, 5, none⟩ u5)) R [u0, u1, u2, u3, u4, u5] := ((((((h.set 0 u0).set 1 u1).set 2 u2).set 3 u3).set 4 u4).set 5 u5)
theorem putx18 {w : World} {R R' : Nat} {vs : List Value} (h : Blk w R' vs) (hne : R ≠ R') (u0 u1 u2 u3 u4 u5 : Value) : Blk (((((((w.setCell ⟨R, 0, none⟩ u0).setCell ⟨R, 1, none⟩ u1).setCell ⟨R, 2, none⟩ u2).setCell ⟨R, 3, none⟩ u3).setCell ⟨R, 4, none⟩ u4).setCell ⟨R, 5, none⟩ u5)) R' vs := ((((((h.other R 0 u0 hne).other R 1 u1 hne).other R 2 u2 hne).other R 3 u3 hne).other R 4 u4 hne).other R 5 u5 hne)
theorem puto18 {S : Nat → Prop} {a w : World} (h : Only S a w) {R : Nat} (hR : S R) (u0 u1 u2 u3 u4 u5 : Value) : Only S a (((((((w.setCell ⟨R, 0, none⟩ u0).setCell ⟨R, 1, none⟩ u1).setCell ⟨R, 2, none⟩ u2).setCell ⟨R, 3, none⟩ u3).setCell ⟨R, 4, none⟩ u4).setCell ⟨R, 5, none⟩ u5)) := ((((((h.set R 0 u0 hR).set R 1 u1 hR).set R 2 u2 hR).set R 3 u3 hR).set R 4 u4 hR).set R 5 u5 hR)
end Go.Proofs.YtkcnpbckmdgfnaaGreatDoor
namespace Go.Proofs.YtkcnpbckmdgfnaaGreatDoor
open Go.ChangeShapes Go.WideShapes Go.ChangeAt Go.RowKit
set_option linter.unusedSimpArgs false
set_option linter.unusedVariables false

theorem res13 {tmps : Array Value} {w : World} {R2 : Nat} {v0 v1 v2 v3 v4 v5 v6 v7 v8 a y : Value} (h2 : tmps.getD 2 undef = .pointer (some ⟨R2, 0, none⟩)) (h3 : tmps.getD 3 undef = a) (h4 : tmps.getD 4 undef = y)
    (c0 : w.cell? ⟨R2, 0, none⟩ = some v0) (c1 : w.cell? ⟨R2, 1, none⟩ = some v1) (c2 : w.cell? ⟨R2, 2, none⟩ = some v2) (c3 : w.cell? ⟨R2, 3, none⟩ = some v3) (c4 : w.cell? ⟨R2, 4, none⟩ = some v4) (c5 : w.cell? ⟨R2, 5, none⟩ = some v5) (c6 : w.cell? ⟨R2, 6, none⟩ = some v6) (c7 : w.cell? ⟨R2, 7, none⟩ = some v7) (c8 : w.cell? ⟨R2, 8, none⟩ = some v8) :
    (results Tryz.f14 tmps).run Tryz.prog w = .ok (.tuple #[.agg #[v0, v1, v2, v3, v4, v5, v6, v7, v8], a, y]) w := by
  have h2' : tmps[2]?.getD undef = .pointer (some ⟨R2, 0, none⟩) := by simpa using h2
  have h3' : tmps[3]?.getD undef = a := by simpa using h3
  have h4' : tmps[4]?.getD undef = y := by simpa using h4
  simp [results, Tryz.results14, h2', h3', h4', go_sem, c0, c1, c2, c3, c4, c5, c6, c7, c8]
set_option maxRecDepth 100000 in
set_option maxHeartbeats 4000000 in
theorem parse13 (s : ByteArray) (hs : s.size ≤ maxLen) (w : World) (hT : Tabs w) :
    Calls Tryz.prog 14 #[.string s] w (Gives w (parseEL s.data.toList) (.agg #[.int .i64 0, .slice none 0 0, .string ⟨#[]⟩, .string ⟨#[]⟩, .int .i64 0, .bool false, .int .i64 0, .string ⟨#[]⟩, .slice none 0 0]) (IsEx w.heap.size)) := by
  have b0 := below_new w (.cells #[.int .i64 0, .slice none 0 0, .string ⟨#[]⟩, .string ⟨#[]⟩, .int .i64 0, .bool false, .int .i64 0, .string ⟨#[]⟩, .slice none 0 0] 39)
  have hE := fun (_ : Unit) => read24 s hs (w.alloc (.cells #[.int .i64 0, .slice none 0 0, .string ⟨#[]⟩, .string ⟨#[]⟩, .int .i64 0, .bool false, .int .i64 0, .string ⟨#[]⟩, .slice none 0 0] 39)) (hT.below b0)
  have B0 := Blk.new w [.int .i64 0, .slice none 0 0, .string ⟨#[]⟩, .string ⟨#[]⟩, .int .i64 0, .bool false, .int .i64 0, .string ⟨#[]⟩, .slice none 0 0] 39
  have hz0 : (w.alloc (.cells #[.int .i64 0, .slice none 0 0, .string ⟨#[]⟩, .string ⟨#[]⟩, .int .i64 0, .bool false, .int .i64 0, .string ⟨#[]⟩, .slice none 0 0] 39)).heap.size = w.heap.size + 1 := by simp
  have oz : Only (fun k => w.heap.size ≤ k) w (w.alloc (.cells #[.int .i64 0, .slice none 0 0, .string ⟨#[]⟩, .string ⟨#[]⟩, .int .i64 0, .bool false, .int .i64 0, .string ⟨#[]⟩, .slice none 0 0] 39)) := Below.only _ b0
  have bz : Below w.heap.size w w := Below.refl _ _
  cases hr : parseEL s.data.toList with
  | bad a1 y1 =>
    rw [hr] at hE
    replace hE : Hid _ := hE
    go_enter Tryz.func14, Tryz.ntmps14
    go_wp2_with ((have hh := hE.out (); go_at_call 30; (with_reducible refine Calls.mono hh ?_); clear hh hE; rintro e w2 ⟨hb, rfl⟩; have B2 := B0.grown hb; have r4 := B2.fr; have q0 : w2.cell? ⟨w.heap.size, 0, none⟩ = some (.int .i64 0) := (B2.c 0 (by decide)); have q1 : w2.cell? ⟨w.heap.size, 1, none⟩ = some (.slice none 0 0) := (B2.c 1 (by decide)); have q2 : w2.cell? ⟨w.heap.size, 2, none⟩ = some (.string ⟨#[]⟩) := (B2.c 2 (by decide)); have q3 : w2.cell? ⟨w.heap.size, 3, none⟩ = some (.string ⟨#[]⟩) := (B2.c 3 (by decide)); have q4 : w2.cell? ⟨w.heap.size, 4, none⟩ = some (.int .i64 0) := (B2.c 4 (by decide)); have q5 : w2.cell? ⟨w.heap.size, 5, none⟩ = some (.bool false) := (B2.c 5 (by decide)); have q6 : w2.cell? ⟨w.heap.size, 6, none⟩ = some (.int .i64 0) := (B2.c 6 (by decide)); have q7 : w2.cell? ⟨w.heap.size, 7, none⟩ = some (.string ⟨#[]⟩) := (B2.c 7 (by decide)); have q8 : w2.cell? ⟨w.heap.size, 8, none⟩ = some (.slice none 0 0) := (B2.c 8 (by decide))))
    have o2 := puto24 ((oz.trans (Below.only (fun k => w.heap.size ≤ k) hb))) (R := w.heap.size) (Nat.le_refl _) (.int .i64 0) (.slice none 0 0) (.string ⟨#[]⟩) (.string ⟨#[]⟩) (.int .i64 0) (.bool false) (.int .i64 0) (.string ⟨#[]⟩) (.slice none 0 0)
    have G4 := put24 B2 (.int .i64 0) (.slice none 0 0) (.string ⟨#[]⟩) (.string ⟨#[]⟩) (.int .i64 0) (.bool false) (.int .i64 0) (.string ⟨#[]⟩) (.slice none 0 0)
    exact ⟨rfl, .tuple #[.agg #[.int .i64 0, .slice none 0 0, .string ⟨#[]⟩, .string ⟨#[]⟩, .int .i64 0, .bool false, .int .i64 0, .string ⟨#[]⟩, .slice none 0 0], .int .i64 a1, .int .i64 y1], res13 (R2 := w.heap.size) rfl rfl rfl (G4.c 0 (by decide)) (G4.c 1 (by decide)) (G4.c 2 (by decide)) (G4.c 3 (by decide)) (G4.c 4 (by decide)) (G4.c 5 (by decide)) (G4.c 6 (by decide)) (G4.c 7 (by decide)) (G4.c 8 (by decide)), Below.by_only bz (Nat.le_refl _) o2 (fun k hk => hk), rfl⟩
  | ok x M =>
    rw [hr] at hE
    replace hE : Hid _ := hE
    go_enter Tryz.func14, Tryz.ntmps14
    go_wp2_with ((have hh := hE.out (); go_at_call 30; (with_reducible refine Calls.mono hh ?_); clear hh hE; rintro e w2 ⟨hb, v, rfl, sp, sn, sc, rfl, hx⟩; skip; replace hx : Hid _ := hx; have B2 := B0.grown hb; have r4 := B2.fr; have q0 : w2.cell? ⟨w.heap.size, 0, none⟩ = some (.int .i64 0) := (B2.c 0 (by decide)); have q1 : w2.cell? ⟨w.heap.size, 1, none⟩ = some (.slice none 0 0) := (B2.c 1 (by decide)); have q2 : w2.cell? ⟨w.heap.size, 2, none⟩ = some (.string ⟨#[]⟩) := (B2.c 2 (by decide)); have q3 : w2.cell? ⟨w.heap.size, 3, none⟩ = some (.string ⟨#[]⟩) := (B2.c 3 (by decide)); have q4 : w2.cell? ⟨w.heap.size, 4, none⟩ = some (.int .i64 0) := (B2.c 4 (by decide)); have q5 : w2.cell? ⟨w.heap.size, 5, none⟩ = some (.bool false) := (B2.c 5 (by decide)); have q6 : w2.cell? ⟨w.heap.size, 6, none⟩ = some (.int .i64 0) := (B2.c 6 (by decide)); have q7 : w2.cell? ⟨w.heap.size, 7, none⟩ = some (.string ⟨#[]⟩) := (B2.c 7 (by decide)); have q8 : w2.cell? ⟨w.heap.size, 8, none⟩ = some (.slice none 0 0) := (B2.c 8 (by decide))))
    have o1 := puto24 (Only.refl (fun k => k = w.heap.size) w2) (R := w.heap.size) rfl (.int .i64 (opE x)) (.slice sp sn sc) (.string (txt (nmE x))) (.string (txt (prE x))) (.int .i64 (kE x)) (.bool (bE x)) (.int .i64 (nE x)) (.string (txt (tE x))) (.slice none 0 0)
    have o2 := puto24 ((oz.trans (Below.only (fun k => w.heap.size ≤ k) hb))) (R := w.heap.size) (Nat.le_refl _) (.int .i64 (opE x)) (.slice sp sn sc) (.string (txt (nmE x))) (.string (txt (prE x))) (.int .i64 (kE x)) (.bool (bE x)) (.int .i64 (nE x)) (.string (txt (tE x))) (.slice none 0 0)
    have G4 := put24 B2 (.int .i64 (opE x)) (.slice sp sn sc) (.string (txt (nmE x))) (.string (txt (prE x))) (.int .i64 (kE x)) (.bool (bE x)) (.int .i64 (nE x)) (.string (txt (tE x))) (.slice none 0 0)
    have keep : ∀ g, (w.alloc (.cells #[.int .i64 0, .slice none 0 0, .string ⟨#[]⟩, .string ⟨#[]⟩, .int .i64 0, .bool false, .int .i64 0, .string ⟨#[]⟩, .slice none 0 0] 39)).heap.size ≤ g → g < w2.heap.size → ((((((((((w2.setCell ⟨w.heap.size, 0, none⟩ (.int .i64 (opE x))).setCell ⟨w.heap.size, 1, none⟩ (.slice sp sn sc)).setCell ⟨w.heap.size, 2, none⟩ (.string (txt (nmE x)))).setCell ⟨w.heap.size, 3, none⟩ (.string (txt (prE x)))).setCell ⟨w.heap.size, 4, none⟩ (.int .i64 (kE x))).setCell ⟨w.heap.size, 5, none⟩ (.bool (bE x))).setCell ⟨w.heap.size, 6, none⟩ (.int .i64 (nE x))).setCell ⟨w.heap.size, 7, none⟩ (.string (txt (tE x)))).setCell ⟨w.heap.size, 8, none⟩ (.slice none 0 0))).heap[g]? = w2.heap[g]? := fun g hg hl => o1.block g hl (fun h => by omega)
    have weak : ∀ g, (w.alloc (.cells #[.int .i64 0, .slice none 0 0, .string ⟨#[]⟩, .string ⟨#[]⟩, .int .i64 0, .bool false, .int .i64 0, .string ⟨#[]⟩, .slice none 0 0] 39)).heap.size ≤ g → w.heap.size ≤ g := fun g hg => by omega
    exact ⟨rfl, .tuple #[.agg #[.int .i64 (opE x), .slice sp sn sc, .string (txt (nmE x)), .string (txt (prE x)), .int .i64 (kE x), .bool (bE x), .int .i64 (nE x), .string (txt (tE x)), .slice none 0 0], .int .i64 0, .int .i64 0], res13 (R2 := w.heap.size) rfl rfl rfl (G4.c 0 (by simp)) (G4.c 1 (by simp)) (G4.c 2 (by simp)) (G4.c 3 (by simp)) (G4.c 4 (by simp)) (G4.c 5 (by simp)) (G4.c 6 (by simp)) (G4.c 7 (by simp)) (G4.c 8 (by simp)), Below.by_only bz (Nat.le_refl _) o2 (fun k hk => hk), _, rfl, _, _, _, rfl, ExAt.weakS weak _ _ (ExAt.same keep _ _ hx.out)⟩

end Go.Proofs.YtkcnpbckmdgfnaaGreatDoor