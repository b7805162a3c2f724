/-
  What is deferred where a text is read: the refusal is caught.
  Lex of the program.
  What reads a text: its words, a reader, what is deferred.
  ParseExpr and Parse: what any text is read as.
  The live question.
  DERIVED: THE SHELF's CONTRACTS AT THIS DUMP, IN PLAIN WORDS (tools/lay-plain.mjs out of 'YtefenbonjepjgaaGreatDoorVsh.lean', which tools/lay-shelf.mjs wrote): THE SAME DECLARATIONS UNDER THE SAME NAMES: 'import', 'namespace', 'open', 'def', 'theorem' AND NOTHING ELSE: no command of the shelf's: FOR A HAND-IN. Each laying: the table of numbers ('.._ren') and one theorem, a field a fact of the dump's own or the kernel's comparison; each contract: ONE APPLICATION.
  The tables that the rows list, as the walks want them; a world in which they are laid.
-/
import Derived.Test.YtefenbonjepjgaaGreatDoorRdp
import Derived.Test.YtefenbonjepjgaaGreatDoorRow
import Derived.Test.YtefenbonjepjgaaGreatDoorQw
import Derived.Test.YtefenbonjepjgaaGreatDoorLay
import Derived.Ground.NamesProg
import Derived.Shelf.Unicode.ValidAny
import Derived.Test.YtefenbonjepjgaaGreatDoorProg
import Derived.Test.YtefenbonjepjgaaGreatDoorVal
import Derived.Lib.LaidU8T
import Derived.Lay
import Derived.LaidLaws
namespace Go.Proofs.YtefenbonjepjgaaGreatDoor
open Go.ChangeShapes Go.WideShapes Go.ChangeAt Go.RowKit
set_option linter.unusedSimpArgs false
set_option linter.unusedVariables false

theorem post_letter {P : Program} {c : Code} {R : Exit → Act → World → Prop} {t : Array Value} {w : World}
    (h : ∀ (T : Array Value) (Q : Exit → Act → World → Prop), T = t → (∀ e a' w', R e a' w' → Q e a' w') → c.wp P Q { tmps := T, defers := [] } w) : c.wp P R { tmps := t, defers := [] } w := h t _ rfl fun _ _ _ x => x
theorem ta_yes (a y : Int) (w : World) : (Instr.typeAssert (.iface 91 (.agg #[.int .i64 a, .int .i64 y])) 20 91 true).run Tryz.prog w = .ok (.tuple #[.agg #[.int .i64 a, .int .i64 y], .bool true]) w := by kernel_rfl
theorem ta_no (w : World) : (Instr.typeAssert .nilIface 20 91 true).run Tryz.prog w = .ok (.tuple #[.agg #[.int .i64 0, .int .i64 0], .bool false]) w := by kernel_rfl

set_option maxRecDepth 100000 in
set_option maxHeartbeats 300000 in
theorem catch51 (ba be : Nat) (a y x z : Int) (older : List PanicEntry) (w : World) (hne : ba ≠ be) (h1 : w.cell? ⟨ba, 0, none⟩ = some (.int .i64 x)) (h2 : w.cell? ⟨be, 0, none⟩ = some (.int .i64 z)) (f1 : w.frozen? ⟨ba, 0, none⟩ = false) (f2 : w.frozen? ⟨be, 0, none⟩ = false) :
    CallsD Tryz.prog 51 #[.pointer (some ⟨ba, 0, none⟩), .pointer (some ⟨be, 0, none⟩)] (.panicking ({ v := .iface 91 (.agg #[.int .i64 a, .int .i64 y]), recovered := false } :: older)) w fun e u' w' =>
      e = .returned (.tuple #[]) ∧ u' = .panicking ({ v := .iface 91 (.agg #[.int .i64 a, .int .i64 y]), recovered := true } :: older) ∧ Only (fun k => k = ba ∨ k = be) w w' ∧ w'.cell? ⟨ba, 0, none⟩ = some (.int .i64 a) ∧ w'.cell? ⟨be, 0, none⟩ = some (.int .i64 y) := by
  refine callsD_of_wpS Tryz.func51 rfl fun c₀ cs hu => ?_
  have hta := ta_yes a y
  apply wpS_seq
  apply wpS_region
  simp [wpOpsS, go_sem, recoverD, hu, Tryz.ntmps51, Exit.thenS, hta]
  refine wpS_of_wp ?_
  refine post_letter ?_
  intro T Q hT hQ
  have hT' : T = #[.pointer (some ⟨ba, 0, none⟩), .pointer (some ⟨be, 0, none⟩), .pointer (some ⟨w.heap.size, 0, none⟩), .bool true, .tuple #[.agg #[.int .i64 a, .int .i64 y], .bool true], .iface 91 (.agg #[.int .i64 a, .int .i64 y]), .tuple #[.agg #[.int .i64 a, .int .i64 y], .bool true], .agg #[.int .i64 a, .int .i64 y], .bool true, undef, undef, undef, undef, undef] := hT.trans (by kernel_rfl)
  clear hT
  subst hT'
  replace hQ : Hid _ := hQ
  have hla : ba < w.heap.size := World.block_lt_of_cell? w _ h1
  have hle : be < w.heap.size := World.block_lt_of_cell? w _ h2
  have g1 := cell_keep (.cells #[.int .i64 a, .int .i64 y] 91) h1
  have g2 := cell_keep (.cells #[.int .i64 a, .int .i64 y] 91) h2
  replace hu : Hid _ := hu
  go_wp2_with fail
  go_region
  refine hQ.out _ _ _ ⟨rfl, _, rfl, .tuple #[], by kernel_rfl, rfl, rfl, ?_, ?_, ?_⟩
  · have o1 : Only (fun k => k = ba ∨ k = be) w (w.setCell ⟨ba, 0, none⟩ (.int .i64 a)) := ⟨rfl, rfl, rfl, by simp [World.setCell], fun k hk hn => Below.heap_setCell _ _ _ _ (fun e => hn (Or.inl e))⟩
    have o2 : Only (fun k => k = ba ∨ k = be) (w.setCell ⟨ba, 0, none⟩ (.int .i64 a)) ((w.setCell ⟨ba, 0, none⟩ (.int .i64 a)).setCell ⟨be, 0, none⟩ (.int .i64 y)) := ⟨rfl, rfl, rfl, by simp [World.setCell], fun k hk hn => Below.heap_setCell _ _ _ _ (fun e => hn (Or.inr e))⟩
    have o3 := only_new (o1.trans o2) (.cells #[.int .i64 a, .int .i64 y] 91)
    exact o3.trans (Below.only _ (by go_grown))
  · simp [go_sem]
    exact cell_keep _ (by simp [go_sem, h1, h2, hne, Ne.symm hne])
  · simp [go_sem]
    exact cell_keep _ (by simp [go_sem, h1, h2, hne, Ne.symm hne])

set_option maxRecDepth 100000 in
set_option maxHeartbeats 300000 in
theorem idle51 (ba be : Nat) (w : World) :
    CallsD Tryz.prog 51 #[.pointer (some ⟨ba, 0, none⟩), .pointer (some ⟨be, 0, none⟩)] .returning w fun e u' w' => e = .returned (.tuple #[]) ∧ u' = .returning ∧ Below w.heap.size w w' := by
  refine callsD_of_wpS Tryz.func51 rfl fun c₀ cs hu => ?_
  have hta := ta_no
  apply wpS_seq
  apply wpS_region
  simp [wpOpsS, go_sem, recoverD, hu, Tryz.ntmps51, Exit.thenS, hta]
  refine wpS_of_wp ?_
  refine post_letter ?_
  intro T Q hT hQ
  have hT' : T = #[.pointer (some ⟨ba, 0, none⟩), .pointer (some ⟨be, 0, none⟩), .pointer (some ⟨w.heap.size, 0, none⟩), .bool false, .tuple #[.agg #[.int .i64 0, .int .i64 0], .bool false], .nilIface, .tuple #[.agg #[.int .i64 0, .int .i64 0], .bool false], .agg #[.int .i64 0, .int .i64 0], .bool false, undef, undef, undef, undef, undef] := hT.trans (by kernel_rfl)
  clear hT
  subst hT'
  replace hQ : Hid _ := hQ
  replace hu : Hid _ := hu
  go_wp2_with fail
  refine hQ.out _ _ _ ⟨rfl, .returning, (by have h := hu.out; cases c₀; cases h; rfl), .tuple #[], by kernel_rfl, rfl, rfl, ?_⟩
  exact below_new _ _

set_option maxRecDepth 100000 in
set_option maxHeartbeats 300000 in
theorem catch30 (ba be : Nat) (a y x z : Int) (older : List PanicEntry) (w : World) (hne : ba ≠ be) (h1 : w.cell? ⟨ba, 0, none⟩ = some (.int .i64 x)) (h2 : w.cell? ⟨be, 0, none⟩ = some (.int .i64 z)) (f1 : w.frozen? ⟨ba, 0, none⟩ = false) (f2 : w.frozen? ⟨be, 0, none⟩ = false) :
    CallsD Tryz.prog 30 #[.pointer (some ⟨ba, 0, none⟩), .pointer (some ⟨be, 0, none⟩)] (.panicking ({ v := .iface 91 (.agg #[.int .i64 a, .int .i64 y]), recovered := false } :: older)) w fun e u' w' =>
      e = .returned (.tuple #[]) ∧ u' = .panicking ({ v := .iface 91 (.agg #[.int .i64 a, .int .i64 y]), recovered := true } :: older) ∧ Only (fun k => k = ba ∨ k = be) w w' ∧ w'.cell? ⟨ba, 0, none⟩ = some (.int .i64 a) ∧ w'.cell? ⟨be, 0, none⟩ = some (.int .i64 y) := by
  refine callsD_of_wpS Tryz.func30 rfl fun c₀ cs hu => ?_
  have hta := ta_yes a y
  apply wpS_seq
  apply wpS_region
  simp [wpOpsS, go_sem, recoverD, hu, Tryz.ntmps30, Exit.thenS, hta]
  refine wpS_of_wp ?_
  refine post_letter ?_
  intro T Q hT hQ
  have hT' : T = #[.pointer (some ⟨ba, 0, none⟩), .pointer (some ⟨be, 0, none⟩), .pointer (some ⟨w.heap.size, 0, none⟩), .bool true, .tuple #[.agg #[.int .i64 a, .int .i64 y], .bool true], .iface 91 (.agg #[.int .i64 a, .int .i64 y]), .tuple #[.agg #[.int .i64 a, .int .i64 y], .bool true], .agg #[.int .i64 a, .int .i64 y], .bool true, undef, undef, undef, undef, undef] := hT.trans (by kernel_rfl)
  clear hT
  subst hT'
  replace hQ : Hid _ := hQ
  have hla : ba < w.heap.size := World.block_lt_of_cell? w _ h1
  have hle : be < w.heap.size := World.block_lt_of_cell? w _ h2
  have g1 := cell_keep (.cells #[.int .i64 a, .int .i64 y] 91) h1
  have g2 := cell_keep (.cells #[.int .i64 a, .int .i64 y] 91) h2
  replace hu : Hid _ := hu
  go_wp2_with fail
  go_region
  refine hQ.out _ _ _ ⟨rfl, _, rfl, .tuple #[], by kernel_rfl, rfl, rfl, ?_, ?_, ?_⟩
  · have o1 : Only (fun k => k = ba ∨ k = be) w (w.setCell ⟨ba, 0, none⟩ (.int .i64 a)) := ⟨rfl, rfl, rfl, by simp [World.setCell], fun k hk hn => Below.heap_setCell _ _ _ _ (fun e => hn (Or.inl e))⟩
    have o2 : Only (fun k => k = ba ∨ k = be) (w.setCell ⟨ba, 0, none⟩ (.int .i64 a)) ((w.setCell ⟨ba, 0, none⟩ (.int .i64 a)).setCell ⟨be, 0, none⟩ (.int .i64 y)) := ⟨rfl, rfl, rfl, by simp [World.setCell], fun k hk hn => Below.heap_setCell _ _ _ _ (fun e => hn (Or.inr e))⟩
    have o3 := only_new (o1.trans o2) (.cells #[.int .i64 a, .int .i64 y] 91)
    exact o3.trans (Below.only _ (by go_grown))
  · simp [go_sem]
    exact cell_keep _ (by simp [go_sem, h1, h2, hne, Ne.symm hne])
  · simp [go_sem]
    exact cell_keep _ (by simp [go_sem, h1, h2, hne, Ne.symm hne])

set_option maxRecDepth 100000 in
set_option maxHeartbeats 300000 in
theorem idle30 (ba be : Nat) (w : World) :
    CallsD Tryz.prog 30 #[.pointer (some ⟨ba, 0, none⟩), .pointer (some ⟨be, 0, none⟩)] .returning w fun e u' w' => e = .returned (.tuple #[]) ∧ u' = .returning ∧ Below w.heap.size w w' := by
  refine callsD_of_wpS Tryz.func30 rfl fun c₀ cs hu => ?_
  have hta := ta_no
  apply wpS_seq
  apply wpS_region
  simp [wpOpsS, go_sem, recoverD, hu, Tryz.ntmps30, Exit.thenS, hta]
  refine wpS_of_wp ?_
  refine post_letter ?_
  intro T Q hT hQ
  have hT' : T = #[.pointer (some ⟨ba, 0, none⟩), .pointer (some ⟨be, 0, none⟩), .pointer (some ⟨w.heap.size, 0, none⟩), .bool false, .tuple #[.agg #[.int .i64 0, .int .i64 0], .bool false], .nilIface, .tuple #[.agg #[.int .i64 0, .int .i64 0], .bool false], .agg #[.int .i64 0, .int .i64 0], .bool false, undef, undef, undef, undef, undef] := hT.trans (by kernel_rfl)
  clear hT
  subst hT'
  replace hQ : Hid _ := hQ
  replace hu : Hid _ := hu
  go_wp2_with fail
  refine hQ.out _ _ _ ⟨rfl, .returning, (by have h := hu.out; cases c₀; cases h; rfl), .tuple #[], by kernel_rfl, rfl, rfl, ?_⟩
  exact below_new _ _
 
end Go.Proofs.YtefenbonjepjgaaGreatDoor
namespace Go.Proofs.YtefenbonjepjgaaGreatDoor
open Go.RowKit
set_option linter.unusedSimpArgs false
set_option linter.unusedVariables false

set_option maxRecDepth 100000 in
set_option maxHeartbeats 4000000 in
theorem frame51 (t : Array Value) (hs : t.size = 51) : ∃ u : Nat → Value, t = #[u 0, u 1, u 2, u 3, u 4, u 5, u 6, u 7, u 8, u 9, u 10, u 11, u 12, u 13, u 14, u 15, u 16, u 17, u 18, u 19, u 20, u 21, u 22, u 23, u 24, u 25, u 26, u 27, u 28, u 29, u 30, u 31, u 32, u 33, u 34, u 35, u 36, u 37, u 38, u 39, u 40, u 41, u 42, u 43, u 44, u 45, u 46, u 47, u 48, u 49, u 50] := by
  refine ⟨fun i => t.getD i undef, ?_⟩
  apply Array.ext
  · rw [hs]; rfl
  · intro i h1 h2
    have e : t[i] = t.getD i undef := by simp [Array.getD, h1]
    rw [e]
    have hi : i < 51 := by omega
    clear e h1 hs
    match i, hi with
    | 0, _ => rfl
    | 1, _ => rfl
    | 2, _ => rfl
    | 3, _ => rfl
    | 4, _ => rfl
    | 5, _ => rfl
    | 6, _ => rfl
    | 7, _ => rfl
    | 8, _ => rfl
    | 9, _ => rfl
    | 10, _ => rfl
    | 11, _ => rfl
    | 12, _ => rfl
    | 13, _ => rfl
    | 14, _ => rfl
    | 15, _ => rfl
    | 16, _ => rfl
    | 17, _ => rfl
    | 18, _ => rfl
    | 19, _ => rfl
    | 20, _ => rfl
    | 21, _ => rfl
    | 22, _ => rfl
    | 23, _ => rfl
    | 24, _ => rfl
    | 25, _ => rfl
    | 26, _ => rfl
    | 27, _ => rfl
    | 28, _ => rfl
    | 29, _ => rfl
    | 30, _ => rfl
    | 31, _ => rfl
    | 32, _ => rfl
    | 33, _ => rfl
    | 34, _ => rfl
    | 35, _ => rfl
    | 36, _ => rfl
    | 37, _ => rfl
    | 38, _ => rfl
    | 39, _ => rfl
    | 40, _ => rfl
    | 41, _ => rfl
    | 42, _ => rfl
    | 43, _ => rfl
    | 44, _ => rfl
    | 45, _ => rfl
    | 46, _ => rfl
    | 47, _ => rfl
    | 48, _ => rfl
    | 49, _ => rfl
    | 50, _ => rfl
    | i + 51, hi => exact absurd hi (by omega)

/-- What Lex holds at its label. -/
structure LS (s : ByteArray) (w w' : World) (v : Value) (at' b : Nat) (acc : List Tk) : Prop where
  own : w'.ownsRow w.heap.size 52 4 v acc.length (rowK acc)
  bel : Below w.heap.size w w'
  tot : lexG b at' (s.data.toList.drop at') acc = lexG s.size 0 s.data.toList []
  fuel : s.size ≤ at' + b
  le : at' ≤ s.size
  few : acc.length ≤ at'
def LJ (s : ByteArray) (w : World) (a' : Act) (w' : World) : Prop := ∃ (v : Value) (at' b : Nat) (acc : List Tk) (t : Array Value), a' = { tmps := t, defers := [] } ∧ t.size = 51 ∧ t.getD 0 undef = .string s ∧ t.getD 5 undef = v ∧ t.getD 6 undef = .int .i64 at' ∧ LS s w w' v at' b acc

set_option maxRecDepth 100000 in
set_option maxHeartbeats 8000000 in
theorem Lex_any (s : ByteArray) (hs : s.size ≤ maxLen) (w : World) (hT : Tabs w) :
    Calls Tryz.prog 17 #[.string s] w fun e w' => ∃ v, e = .returned (.tuple #[v, .int .i64 (lexL s.data.toList).2.1, .int .i64 (lexL s.data.toList).2.2]) ∧ w'.ownsRow w.heap.size 52 4 v (lexL s.data.toList).1.length (rowK (lexL s.data.toList).1) ∧ Below w.heap.size w w' := by
  unfold maxLen at hs
  have hl : s.data.toList.length = s.size := Array.length_toList
  by_cases h4 : 4096 < s.size
  · unfold lexL
    rw [hl, if_pos h4]
    go_enter Tryz.func17, Tryz.ntmps17
    go_wp2_with fail
    refine wp_scope_back 0 (fun _ _ => False) (fun _ _ => 0) rfl ?_ ?_
    case refine_2 => exact fun a w h => h.elim
    intro _
    go_wp2_with fail
    try simp only [Exit.jump]
    change bodyPost Tryz.prog Tryz.f17 _ _ _ _
    go_returns
    exact ⟨_, rfl, own_nil w _ _ _, Below.refl _ _⟩
  · unfold lexL
    rw [hl, if_neg h4]
    go_enter Tryz.func17, Tryz.ntmps17
    go_wp2_with fail
    refine wp_scope_back 0 (LJ s w) (fun a' _ => s.size - (intOf (a'.tmps.getD 6 undef)).toNat) rfl ?_ ?_
    case refine_1 =>
      intro hX
      go_wp2_with fail
      refine wp_label ?_
      have hst : LS s w w (.slice none 0 0) 0 s.size [] := ⟨own_nil w _ _ _, Below.refl _ _, by rw [List.drop_zero], by omega, by omega, by simp⟩
      rename_i hK
      exact hK _ _ (hX _ _ ⟨_, 0, s.size, [], _, rfl, rfl, rfl, rfl, rfl, hst⟩)
    case refine_2 =>
      rintro a' w' ⟨v, at', b, acc, t, rfl, hz, g0, g5, g6, hst⟩
      obtain ⟨u, rfl⟩ := frame51 t hz
      replace g0 : u 0 = .string s := g0
      replace g5 : u 5 = v := g5
      replace g6 : u 6 = .int .i64 at' := g6
      rw [g0, g5, g6]
      clear g0 g5 g6 hz
      have hle := hst.le
      obtain ⟨i0, hi0, hz0, hz1, hz2⟩ := info_parts info52
      go_wp2_with fail
      have hXd := extract_drop s at'
      have hXz : (s.extract at' s.size).size = s.size - at' := by rw [ByteArray.size_extract]; omega
      generalize hXe : s.extract at' s.size = X at *
      have hXp : ∀ pos, X.data.toList.drop pos = s.data.toList.drop (at' + pos) := fun pos => by rw [hXd, List.drop_drop]
      replace hXp : Hid _ := hXp
      replace hst : Hid _ := hst
      replace hXe : Hid _ := hXe
      replace hi0 : Hid _ := hi0
      replace hz0 : Hid _ := hz0
      replace hz1 : Hid _ := hz1
      replace hz2 : Hid _ := hz2
      clear hXd
      go_loopw [5, 6] (fun v5 v6 wr => ∃ (pos b' : Nat), v5 = v ∧ v6 = .int .i64 at' ∧ wr.heap[w'.heap.size]? = some (.stringIter X pos) ∧ Below w'.heap.size w' wr ∧ lexG b' (at' + pos) (s.data.toList.drop (at' + pos)) acc = lexG s.size 0 s.data.toList [] ∧ s.size ≤ at' + pos + b' ∧ at' + pos ≤ s.size) (fun _ _ wr => s.size - wr.iterPos w'.heap.size)
      case atStart => exact ⟨0, b, rfl, rfl, World.iter_heap _ _ _, below_new w' _, by rw [Nat.add_zero]; exact hst.out.tot, by have := hst.out.fuel; omega, by omega⟩
      case round =>
        obtain ⟨pos, b', rfl, rfl, hit, hB, htot, hb', hpl⟩ := hrel
        by_cases hp : pos < X.size
        case neg =>
          have hnx := fun ty => Lib.run_next_end_at (P := Tryz.prog) wr w'.heap.size X pos ty hit hp
          have hnil : s.data.toList.drop (at' + pos) = [] := List.drop_eq_nil_of_le (by omega)
          rw [hnil, lex_end] at htot
          replace htot : Hid _ := htot
          go_wp2_with fail
          try simp only [Exit.jump]
          change bodyPost Tryz.prog Tryz.f17 _ _ _ _
          go_returns
          rw [← htot.out]
          exact ⟨_, rfl, own_below hst.out.own hB, below_on hst.out.bel hB⟩
        have hnx := fun ty => Lib.run_next_any_at (P := Tryz.prog) wr w'.heap.size X pos ty hit hp
        have hwd := wid X pos hp
        have hwl := decode_le X pos hp
        have hne : s.data.toList.drop (at' + pos) ≠ [] := fun e => by
          have := congrArg List.length e
          rw [List.length_drop, List.length_nil] at this
          omega
        have hdec : Lib.decodeL (s.data.toList.drop (at' + pos)) = Utf8.decode X pos := by rw [← hXp.out, Lib.decodeL_drop]
        have hit2 := Lib.iterAt_heap wr w'.heap.size X pos (pos + (Utf8.decode X pos).2) hit
        have hB2 : Below w'.heap.size w' (wr.iterAt w'.heap.size X (pos + (Utf8.decode X pos).2)) := Lib.below_iterAt hB (Nat.le_refl _) _ _
        have hpos1 : wr.iterPos w'.heap.size = pos := iterPos_of hit
        obtain ⟨b', rfl⟩ : ∃ c, b' = c + 1 := ⟨b' - 1, by omega⟩
        have hblk := fun w => isBlank_any ((Utf8.decode X pos).1 : Int) w
        have hone := blank_one (s.data.toList.drop (at' + pos)) hne
        have hbl := lex_blank b' (at' + pos) (s.data.toList.drop (at' + pos)) acc hne
        have hwo := lex_word b' (at' + pos) (s.data.toList.drop (at' + pos)) acc hne
        have hba := lex_bad b' (at' + pos) (s.data.toList.drop (at' + pos)) acc hne
        have hln := word_len (s.data.toList.drop (at' + pos)) hne
        have hYd := extract_drop s (at' + pos)
        have hYz : (s.extract (at' + pos) s.size).size ≤ 4096 := by rw [ByteArray.size_extract]; omega
        have hrw := fun w hT => readWord_any (s.extract (at' + pos) s.size) hYz (by rw [hYd]; exact hne) w hT
        rw [hYd, hdec] at hrw
        rw [hdec] at hone hbl hwo hba
        rw [List.drop_drop] at hbl hwo
        rw [List.length_drop] at hln
        generalize (Utf8.decode X pos).1 = C at *
        generalize (Utf8.decode X pos).2 = wd at *
        generalize wr.iterAt w'.heap.size X (pos + wd) = W2 at *
        clear hYd hne hdec hit hB
        cases hbk : blankB (C : Int)
        case true =>
          have h1 := hone hbk
          rw [hbl hbk] at htot
          rw [hbk] at hblk
          subst h1
          clear hone hbl hwo hba hln hrw
          replace htot : Hid _ := htot
          replace hblk : Hid _ := hblk
          replace hB2 : Hid _ := hB2
          replace hit2 : Hid _ := hit2
          replace hpos1 : Hid _ := hpos1
          replace hbk : Hid _ := hbk
          go_wp2_with (go_at_call 28; refine Calls.mono (hblk.out _) ?_; rintro e w3 ⟨rfl, hw3⟩; subst hw3)
          exact ⟨⟨pos + 1, b', rfl, rfl, hit2.out, hB2.out, htot.out, by omega, by omega⟩, by rw [iterPos_of hit2.out, hpos1.out]; omega⟩
        case false =>
          rw [hbk] at hblk
          clear hone hbl
          have hTw := fun w4 (hb : Below w'.heap.size w' w4) => hT.below (below_on hst.out.bel hb)
          generalize hYe : s.extract (at' + pos) s.size = Y at *
          generalize hX0 : wordL (s.data.toList.drop (at' + pos)) = X0 at *
          obtain ⟨k, tx, n, len, e⟩ := X0
          unfold resV tokV at hrw
          dsimp only at hrw hwo hba hln
          replace hblk : Hid _ := hblk
          replace hrw : Hid _ := hrw
          replace hTw : Hid _ := hTw
          replace hwo : Hid _ := hwo
          replace hba : Hid _ := hba
          replace hln : Hid _ := hln
          replace hX0 : Hid _ := hX0
          replace hYe : Hid _ := hYe
          replace hB2 : Hid _ := hB2
          replace hit2 : Hid _ := hit2
          replace hpos1 : Hid _ := hpos1
          by_cases he : e = 0
          · subst he
            have hbe : ((0 : Int) != 0) = false := by decide
            obtain ⟨hl1, hl2⟩ := hln.out rfl
            have hfew := hst.out.few
            have hfin := hwo.out hbk rfl
            rw [hfin] at htot
            replace hbk : Hid _ := hbk
            replace htot : Hid _ := htot
            replace hfin : Hid _ := hfin
            have hYo := hYe.out
            go_wp2_with (first
              | (go_at_call 28; refine Calls.mono (hblk.out _) ?_; rintro e1 w3 ⟨rfl, hw3⟩; subst hw3)
              | (go_at_call 29; refine Calls.mono (hrw.out _ (hTw.out _ hB2.out)) ?_; rintro e1 w4 ⟨rfl, hb4⟩; have hb4' := below_on hB2.out hb4)
              | (at_builtin; refine wpList_append_own_at _ rfl _ _ 47 rfl w.heap.size 52 i0 _ 4 40 Tryz.underlying47 hi0.out hz0.out hz1.out hz2.out rfl (by decide) _ _ _ rfl (((own_below hst.out.own hb4').alloc _).alloc _) ⟨w4.heap.size + 1, 0, none⟩ 1 1 (cellsK ⟨k, tx, n, at' + pos⟩) rfl rfl (news_two w4 ⟨k, tx, n, at' + pos⟩ _ (by simp) _) (oneK _) (by unfold maxLen; omega) (by omega) (by have := (below_on hst.out.bel hb4').size; simp; omega) ?_; intro v5 w5 ho5 hg5 hnil5 hloc5))
            have ho6 : w5.ownsRow w.heap.size 52 4 v5 (acc ++ [Tk.mk k tx n (at' + pos)]).length (rowK (acc ++ [Tk.mk k tx n (at' + pos)])) := by
              rw [← rowK_more, List.length_append]
              exact ho5
            have hbw : Below w.heap.size w w5 := below_row (below_on (below_on (below_on hst.out.bel hb4') (below_new _ _)) (below_new _ _)) hg5 (((own_below hst.out.own hb4').alloc _).alloc _) (Nat.le_refl _)
            go_step3
            refine ⟨rfl, ⟨v5, at' + pos + len, b', acc ++ [⟨k, tx, n, at' + pos⟩], _, rfl, rfl, rfl, rfl, rfl, ⟨ho6, hbw, htot.out, by omega, by omega, by rw [List.length_append]; show acc.length + 1 ≤ _; omega⟩⟩, ?_⟩
            show s.size - ((at' : Int) + pos + len).toNat < s.size - (at' : Int).toNat
            omega
          · have hbe : ((e : Int) != 0) = true := by rw [bne_iff_ne]; exact he
            have hfin := hba.out hbk he
            rw [hfin] at htot
            replace hbk : Hid _ := hbk
            replace htot : Hid _ := htot
            replace hfin : Hid _ := hfin
            replace he : Hid _ := he
            have hYo := hYe.out
            go_wp2_with (first
              | (go_at_call 28; refine Calls.mono (hblk.out _) ?_; rintro e1 w3 ⟨rfl, hw3⟩; subst hw3)
              | (go_at_call 29; refine Calls.mono (hrw.out _ (hTw.out _ hB2.out)) ?_; rintro e1 w4 ⟨rfl, hb4⟩))
            try simp only [Exit.jump]
            change bodyPost Tryz.prog Tryz.f17 _ _ _ _
            go_returns
            rw [← htot.out]
            exact ⟨_, rfl, own_nil _ _ _ _, below_on (below_on hst.out.bel (below_on hB2.out hb4)) (below_new _ _)⟩
end Go.Proofs.YtefenbonjepjgaaGreatDoor
namespace Go.Proofs.YtefenbonjepjgaaGreatDoor
open Go.ChangeShapes Go.WideShapes Go.ChangeAt Go.RowKit
set_option linter.unusedSimpArgs false
set_option linter.unusedVariables false

theorem lexG_few : ∀ (n k : Nat) (l : List UInt8) (acc : List Tk), (lexG n k l acc).1.length ≤ acc.length + n
  | 0, _, _, acc => Nat.le_refl _
  | n + 1, k, l, acc => by
    unfold lexG
    split
    · simp
    · split
      · have := lexG_few n (k + 1) (l.drop 1) acc; omega
      · split
        · have := lexG_few n (k + (wordL l).len) (l.drop (wordL l).len) (acc ++ [⟨(wordL l).k, (wordL l).t, (wordL l).n, k⟩]); simp at this; omega
        · simp
theorem lexL_few (l : List UInt8) : (lexL l).1.length ≤ 4096 := by
  unfold lexL
  split
  · simp
  · have := lexG_few l.length 0 l []; simp at this; omega
theorem words_of {w : World} {base : Nat} {v : Value} {L : List Tk} (h : w.ownsRow base 52 4 v L.length (rowK L)) :
    ∃ p cap, v = .slice p L.length cap ∧ L.length ≤ cap ∧ ∀ w' : World, (∀ k, base ≤ k → k < w.heap.size → w'.heap[k]? = w.heap[k]?) → WsAt w' w.heap.size p L := by
  have hh := h
  obtain ⟨h1, ⟨e1, e2⟩ | ⟨g, cap, cur, e1, hbg, e3, e4, _⟩⟩ := hh
  · exact ⟨none, 0, by rw [e1, e2], by omega, fun _ _ => .inl (List.length_eq_zero_iff.1 e2)⟩
  · have hg : g < w.heap.size := by
      rcases Nat.lt_or_ge g w.heap.size with h | h
      · exact h
      · rw [Array.getElem?_eq_none h] at e3; cases e3
    subst e1
    refine ⟨_, cap, rfl, e4, fun w' hw => .inr ⟨g, 0, rfl, hg, fun i hi => ?_⟩⟩
    have hk := hw g hbg hg
    have hc : ∀ q, q < 4 → w'.cell? ⟨g, i * 4 + q, none⟩ = (cellsK (L.getD i default))[q]? := fun q hq => by
      rw [show w'.cell? ⟨g, i * 4 + q, none⟩ = w.cell? ⟨g, i * 4 + q, none⟩ by simp only [World.cell?, hk], h.cellAt (i * 4 + q) (by omega), rowK_at L i q hi hq]
    simp only [Nat.zero_add]
    exact ⟨hc 0 (by omega), hc 1 (by omega), hc 2 (by omega), hc 3 (by omega)⟩
/-- The words behind a call of Lex. -/
theorem Lex_at (s : ByteArray) (hs : s.size ≤ maxLen) (w : World) (hT : Tabs w) :
    Calls Tryz.prog 17 #[.string s] w fun e w' => ∃ p cap, e = .returned (.tuple #[.slice p (lexL s.data.toList).1.length cap, .int .i64 (lexL s.data.toList).2.1, .int .i64 (lexL s.data.toList).2.2]) ∧ (lexL s.data.toList).1.length ≤ cap ∧ (∀ w'' : World, (∀ k, w.heap.size ≤ k → k < w'.heap.size → w''.heap[k]? = w'.heap[k]?) → WsAt w'' w'.heap.size p (lexL s.data.toList).1) ∧ Below w.heap.size w w' :=
  (Lex_any s hs w hT).mono fun e w' ⟨v, h1, h2, h3⟩ => by
    obtain ⟨p, cap, rfl, h5, h6⟩ := words_of h2
    exact ⟨p, cap, h1, h5, h6, h3⟩
/-- A block's cells. -/
structure Blk (w : World) (R : Nat) (vs : List Value) : Prop where
  lt : R < w.heap.size
  c : ∀ i, i < vs.length → w.cell? ⟨R, i, none⟩ = vs[i]?
  fr : ∀ j, w.frozen? ⟨R, j, none⟩ = false
theorem Blk.new (w : World) (vs : List Value) (t : TypeId) : Blk (w.alloc (.cells vs.toArray t)) w.heap.size vs :=
  ⟨by simp, fun i hi => by simp [World.cell?_alloc_new], fun j => by simp [go_sem]⟩
theorem Blk.below {w w' : World} {R b : Nat} {vs : List Value} (h : Blk w R vs) (hR : R < b) (hb : Below b w w') : Blk w' R vs :=
  ⟨Nat.lt_of_lt_of_le h.lt hb.size, fun i hi => by rw [← h.c i hi]; simp only [World.cell?, hb.block R hR], fun j => by rw [← h.fr j]; simp only [World.frozen?, hb.block R hR]⟩
theorem Blk.grown {w w' : World} {R : Nat} {vs : List Value} (h : Blk w R vs) (hb : Below w.heap.size w w') : Blk w' R vs := h.below h.lt hb
theorem Blk.only {w w' : World} {S : Nat → Prop} {R : Nat} {vs : List Value} (h : Blk w R vs) (hS : ¬ S R) (ho : Only S w w') : Blk w' R vs :=
  ⟨Nat.lt_of_lt_of_le h.lt ho.size, fun i hi => (ho.cell h.lt hS).trans (h.c i hi), fun j => (ho.frozen h.lt hS).trans (h.fr j)⟩
theorem Blk.other {w : World} {R : Nat} {vs : List Value} (h : Blk w R vs) (R' j : Nat) (v : Value) (hne : R' ≠ R) : Blk (w.setCell ⟨R', j, none⟩ v) R vs :=
  ⟨by simp [World.setCell]; exact h.lt, fun i hi => (World.cell?_setCell_other _ _ _ _ (fun e => hne (congrArg Addr.block e))).trans (h.c i hi), fun j' => (set_fr _ _ _ _).trans (h.fr j')⟩
theorem Blk.set {w : World} {R : Nat} {vs : List Value} (h : Blk w R vs) (j : Nat) (v : Value) : Blk (w.setCell ⟨R, j, none⟩ v) R (vs.set j v) :=
  ⟨by simp [World.setCell]; exact h.lt, fun i hi => by
    have hi' : i < vs.length := by simpa using hi
    rw [List.getElem?_set]
    split
    · rename_i e
      subst e
      rw [if_pos hi']
      exact set_same ((h.c j hi').trans (List.getElem?_eq_getElem hi'))
    · rename_i e
      exact (set_at _ _ _ (fun x => e x)).trans (h.c i hi'), fun j' => (set_fr _ _ _ _).trans (h.fr j')⟩
theorem Blk.drew {w : World} {R : Nat} {vs : List Value} (h : Blk w R vs) : Blk w.drew R vs := ⟨h.lt, h.c, h.fr⟩
theorem Only.imp {S S' : Nat → Prop} {w w' : World} (hS : ∀ k, S k → S' k) (h : Only S w w') : Only S' w w' := ⟨h.os, h.tape, h.output, h.size, fun k hk hn => h.block k hk (fun x => hn (hS k x))⟩
theorem Only.set {S : Nat → Prop} {a w : World} (h : Only S a w) (R j : Nat) (v : Value) (hR : S R) : Only S a (w.setCell ⟨R, j, none⟩ v) :=
  ⟨h.os, h.tape, h.output, by simp [World.setCell]; exact h.size, fun k hk hn => (Below.heap_setCell _ _ _ _ (fun e => hn (by rw [e]; exact hR))).trans (h.block k hk hn)⟩
theorem Below.by_only {S : Nat → Prop} {b : Nat} {a w w' : World} (h : Below b a w) (hz : b ≤ w.heap.size) (ho : Only S w w') (hS : ∀ k, S k → b ≤ k) : Below b a w' :=
  ⟨ho.os.trans h.os, ho.tape.trans h.tape, ho.output.trans h.output, Nat.le_trans h.size ho.size, fun k hk => (ho.block k (by omega) (fun x => by have := hS k x; omega)).trans (h.block k hk)⟩
theorem start3 {w w1 : World} (zs : List Value) (t : TypeId) (hb : Below (((w.alloc (.cells zs.toArray t)).alloc (.cells #[.int .i64 0] 3)).alloc (.cells #[.int .i64 0] 29)).heap.size (((w.alloc (.cells zs.toArray t)).alloc (.cells #[.int .i64 0] 3)).alloc (.cells #[.int .i64 0] 29)) w1) :
    Blk w1 w.heap.size zs ∧ Blk w1 (w.heap.size + 1) [.int .i64 0] ∧ Blk w1 (w.heap.size + 1 + 1) [.int .i64 0] ∧ Below w.heap.size w w1 := by
  have h1 := Blk.new w zs t
  have h2 := Blk.new (w.alloc (.cells zs.toArray t)) [.int .i64 0] 3
  have h3 := Blk.new ((w.alloc (.cells zs.toArray t)).alloc (.cells #[.int .i64 0] 3)) [.int .i64 0] 29
  have b2 := below_new (w.alloc (.cells zs.toArray t)) (.cells #[.int .i64 0] 3)
  have b3 := below_new ((w.alloc (.cells zs.toArray t)).alloc (.cells #[.int .i64 0] 3)) (.cells #[.int .i64 0] 29)
  have e2 : (w.alloc (.cells zs.toArray t)).heap.size = w.heap.size + 1 := by simp
  have e3 : ((w.alloc (.cells zs.toArray t)).alloc (.cells #[.int .i64 0] 3)).heap.size = w.heap.size + 1 + 1 := by simp
  rw [e2] at h2
  rw [e3] at h3
  refine ⟨((h1.grown b2).grown b3).grown hb, (h2.grown b3).grown hb, h3.grown hb, ?_⟩
  have b0 : Below w.heap.size w (((w.alloc (.cells zs.toArray t)).alloc (.cells #[.int .i64 0] 3)).alloc (.cells #[.int .i64 0] 29)) := by go_grown
  exact ⟨hb.os.trans b0.os, hb.tape.trans b0.tape, hb.output.trans b0.output, Nat.le_trans b0.size hb.size, fun k hk => (hb.block k (by simp; omega)).trans (b0.block k hk)⟩
/-- What a text is read as. -/
def Gives {α : Type} (w : World) (r : Res α) (z : Value) (V : α → Value → World → Prop) (e : Ending) (w' : World) : Prop :=
  Below w.heap.size w w' ∧ match r with
    | .ok x _ => ∃ v, e = .returned (.tuple #[v, .int .i64 0, .int .i64 0]) ∧ V x v w'
    | .bad a y => e = .returned (.tuple #[z, .int .i64 a, .int .i64 y])

theorem res24 {tmps : Array Value} {w : World} {R4 R5 R6 : Nat} {v0 v1 v2 v3 v4 v5 v6 v7 v8 a y : Value} (h4 : tmps.getD 4 undef = .pointer (some ⟨R4, 0, none⟩)) (h5 : tmps.getD 5 undef = .pointer (some ⟨R5, 0, none⟩)) (h6 : tmps.getD 6 undef = .pointer (some ⟨R6, 0, none⟩))
    (c0 : w.cell? ⟨R4, 0, none⟩ = some v0) (c1 : w.cell? ⟨R4, 1, none⟩ = some v1) (c2 : w.cell? ⟨R4, 2, none⟩ = some v2) (c3 : w.cell? ⟨R4, 3, none⟩ = some v3) (c4 : w.cell? ⟨R4, 4, none⟩ = some v4) (c5 : w.cell? ⟨R4, 5, none⟩ = some v5) (c6 : w.cell? ⟨R4, 6, none⟩ = some v6) (c7 : w.cell? ⟨R4, 7, none⟩ = some v7) (c8 : w.cell? ⟨R4, 8, none⟩ = some v8) (ca : w.cell? ⟨R5, 0, none⟩ = some a) (cy : w.cell? ⟨R6, 0, none⟩ = some y) :
    (results Tryz.f24 tmps).run Tryz.prog w = .ok (.tuple #[.agg #[v0, v1, v2, v3, v4, v5, v6, v7, v8], a, y]) w := by
  have h4' : tmps[4]?.getD undef = .pointer (some ⟨R4, 0, none⟩) := by simpa using h4
  have h5' : tmps[5]?.getD undef = .pointer (some ⟨R5, 0, none⟩) := by simpa using h5
  have h6' : tmps[6]?.getD undef = .pointer (some ⟨R6, 0, none⟩) := by simpa using h6
  simp [results, Tryz.results24, h4', h5', h6', go_sem, c0, c1, c2, c3, c4, c5, c6, c7, c8, ca, cy]
theorem put24 {w : World} {R : Nat} {x0 x1 x2 x3 x4 x5 x6 x7 x8 : Value} (h : Blk w R [x0, x1, x2, x3, x4, x5, x6, x7, x8]) (u0 u1 u2 u3 u4 u5 u6 u7 u8 : Value) : Blk ((((((((((w.setCell ⟨R, 0, none⟩ u0).setCell ⟨R, 1, none⟩ u1).setCell ⟨R, 2, none⟩ u2).setCell ⟨R, 3, none⟩ u3).setCell ⟨R, 4, none⟩ u4).setCell ⟨R, 5, none⟩ u5).setCell ⟨R, 6, none⟩ u6).setCell ⟨R, 7, none⟩ u7).setCell ⟨R, 8, none⟩ u8)) R [u0, u1, u2, u3, u4, u5, u6, u7, u8] := (((((((((h.set 0 u0).set 1 u1).set 2 u2).set 3 u3).set 4 u4).set 5 u5).set 6 u6).set 7 u7).set 8 u8)
theorem putx24 {w : World} {R R' : Nat} {vs : List Value} (h : Blk w R' vs) (hne : R ≠ R') (u0 u1 u2 u3 u4 u5 u6 u7 u8 : Value) : Blk ((((((((((w.setCell ⟨R, 0, none⟩ u0).setCell ⟨R, 1, none⟩ u1).setCell ⟨R, 2, none⟩ u2).setCell ⟨R, 3, none⟩ u3).setCell ⟨R, 4, none⟩ u4).setCell ⟨R, 5, none⟩ u5).setCell ⟨R, 6, none⟩ u6).setCell ⟨R, 7, none⟩ u7).setCell ⟨R, 8, none⟩ u8)) R' vs := (((((((((h.other R 0 u0 hne).other R 1 u1 hne).other R 2 u2 hne).other R 3 u3 hne).other R 4 u4 hne).other R 5 u5 hne).other R 6 u6 hne).other R 7 u7 hne).other R 8 u8 hne)
theorem puto24 {S : Nat → Prop} {a w : World} (h : Only S a w) {R : Nat} (hR : S R) (u0 u1 u2 u3 u4 u5 u6 u7 u8 : Value) : Only S a ((((((((((w.setCell ⟨R, 0, none⟩ u0).setCell ⟨R, 1, none⟩ u1).setCell ⟨R, 2, none⟩ u2).setCell ⟨R, 3, none⟩ u3).setCell ⟨R, 4, none⟩ u4).setCell ⟨R, 5, none⟩ u5).setCell ⟨R, 6, none⟩ u6).setCell ⟨R, 7, none⟩ u7).setCell ⟨R, 8, none⟩ u8)) := (((((((((h.set R 0 u0 hR).set R 1 u1 hR).set R 2 u2 hR).set R 3 u3 hR).set R 4 u4 hR).set R 5 u5 hR).set R 6 u6 hR).set R 7 u7 hR).set R 8 u8 hR)
theorem caught24 {w w2 : World} {act : Act} {a1 : Nat} {y1 a0 y0 : Int} {V : Ex → Value → World → Prop} (hd : act.defers = [{ target := .fn (.func 51) #[.pointer (some ⟨w.heap.size + 1, 0, none⟩), .pointer (some ⟨w.heap.size + 1 + 1, 0, none⟩)], args := #[] }])
    (h4 : act.tmps.getD 4 undef = .pointer (some ⟨w.heap.size, 0, none⟩)) (h5 : act.tmps.getD 5 undef = .pointer (some ⟨w.heap.size + 1, 0, none⟩)) (h6 : act.tmps.getD 6 undef = .pointer (some ⟨w.heap.size + 1 + 1, 0, none⟩))
    (hB : Below w.heap.size w w2) (G4 : Blk w2 w.heap.size [.int .i64 0, .slice none 0 0, .string ⟨#[]⟩, .string ⟨#[]⟩, .int .i64 0, .bool false, .int .i64 0, .string ⟨#[]⟩, .slice none 0 0]) (G5 : Blk w2 (w.heap.size + 1) [.int .i64 a0]) (G6 : Blk w2 (w.heap.size + 1 + 1) [.int .i64 y0]) :
    bodyPostD Tryz.prog Tryz.f24 (Gives w (.bad a1 y1) (.agg #[.int .i64 0, .slice none 0 0, .string ⟨#[]⟩, .string ⟨#[]⟩, .int .i64 0, .bool false, .int .i64 0, .string ⟨#[]⟩, .slice none 0 0]) V) (.panic [{ v := .iface 91 (refV a1 y1), recovered := false }]) act w2 := by
  show Leaves Tryz.prog Tryz.f24 act.tmps _ act.defers _ w2
  rw [hd]
  have l4 := G4.lt
  refine leaves_cons (f := 51) (args := #[.pointer (some ⟨w.heap.size + 1, 0, none⟩), .pointer (some ⟨w.heap.size + 1 + 1, 0, none⟩)]) (by simp) (by simp [go_sem]) ?_
  refine (catch51 (w.heap.size + 1) (w.heap.size + 1 + 1) a1 y1 a0 y0 [] w2 (by omega) (G5.c 0 (by simp)) (G6.c 0 (by simp)) (G5.fr 0) (G6.fr 0)).mono ?_
  rintro e u' w3 ⟨rfl, rfl, ho, ha, hy⟩
  have G := G4.only (by omega) ho
  exact ⟨.tuple #[.agg #[.int .i64 0, .slice none 0 0, .string ⟨#[]⟩, .string ⟨#[]⟩, .int .i64 0, .bool false, .int .i64 0, .string ⟨#[]⟩, .slice none 0 0], .int .i64 a1, .int .i64 y1], res24 h4 h5 h6 (G.c 0 (by simp)) (G.c 1 (by simp)) (G.c 2 (by simp)) (G.c 3 (by simp)) (G.c 4 (by simp)) (G.c 5 (by simp)) (G.c 6 (by simp)) (G.c 7 (by simp)) (G.c 8 (by simp)) ha hy, Below.by_only hB (by omega) ho (fun k hk => by omega), rfl⟩
theorem refused24 {w w5 : World} {act : Act} {a1 : Nat} {y1 : Int} {V : Ex → Value → World → Prop} (hd : act.defers = [])
    (h4 : act.tmps.getD 4 undef = .pointer (some ⟨w.heap.size, 0, none⟩)) (h5 : act.tmps.getD 5 undef = .pointer (some ⟨w.heap.size + 1, 0, none⟩)) (h6 : act.tmps.getD 6 undef = .pointer (some ⟨w.heap.size + 1 + 1, 0, none⟩))
    (hB : Below w.heap.size w w5) (G : Blk w5 w.heap.size [.int .i64 0, .slice none 0 0, .string ⟨#[]⟩, .string ⟨#[]⟩, .int .i64 0, .bool false, .int .i64 0, .string ⟨#[]⟩, .slice none 0 0]) (G5 : Blk w5 (w.heap.size + 1) [.int .i64 a1]) (G6 : Blk w5 (w.heap.size + 1 + 1) [.int .i64 y1]) :
    bodyPostD Tryz.prog Tryz.f24 (Gives w (.bad a1 y1) (.agg #[.int .i64 0, .slice none 0 0, .string ⟨#[]⟩, .string ⟨#[]⟩, .int .i64 0, .bool false, .int .i64 0, .string ⟨#[]⟩, .slice none 0 0]) V) .ret act w5.drew := by
  show Leaves Tryz.prog Tryz.f24 act.tmps _ act.defers _ w5.drew
  rw [hd]
  have G' := G.drew
  exact ⟨.tuple #[.agg #[.int .i64 0, .slice none 0 0, .string ⟨#[]⟩, .string ⟨#[]⟩, .int .i64 0, .bool false, .int .i64 0, .string ⟨#[]⟩, .slice none 0 0], .int .i64 a1, .int .i64 y1], res24 h4 h5 h6 (G'.c 0 (by simp)) (G'.c 1 (by simp)) (G'.c 2 (by simp)) (G'.c 3 (by simp)) (G'.c 4 (by simp)) (G'.c 5 (by simp)) (G'.c 6 (by simp)) (G'.c 7 (by simp)) (G'.c 8 (by simp)) (G5.drew.c 0 (by simp)) (G6.drew.c 0 (by simp)), ⟨hB.os, hB.tape, hB.output, hB.size, hB.block⟩, rfl⟩
theorem ended24 {w w5 : World} {act : Act} {x : Ex} {V : Ex → Value → World → Prop} {z u0 u1 u2 u3 u4 u5 u6 u7 u8 : Value} (hd : act.defers = [{ target := .fn (.func 51) #[.pointer (some ⟨w.heap.size + 1, 0, none⟩), .pointer (some ⟨w.heap.size + 1 + 1, 0, none⟩)], args := #[] }])
    (h4 : act.tmps.getD 4 undef = .pointer (some ⟨w.heap.size, 0, none⟩)) (h5 : act.tmps.getD 5 undef = .pointer (some ⟨w.heap.size + 1, 0, none⟩)) (h6 : act.tmps.getD 6 undef = .pointer (some ⟨w.heap.size + 1 + 1, 0, none⟩))
    (hB : Below w.heap.size w w5) (G4 : Blk w5 w.heap.size [u0, u1, u2, u3, u4, u5, u6, u7, u8]) (G5 : Blk w5 (w.heap.size + 1) [.int .i64 0]) (G6 : Blk w5 (w.heap.size + 1 + 1) [.int .i64 0]) (hV : ∀ w6, Below w5.heap.size w5 w6 → V x (.agg #[u0, u1, u2, u3, u4, u5, u6, u7, u8]) w6) :
    bodyPostD Tryz.prog Tryz.f24 (Gives w (.ok x []) z V) .ret act w5 := by
  show Leaves Tryz.prog Tryz.f24 act.tmps _ act.defers _ w5
  rw [hd]
  have l4 := G4.lt
  refine leaves_cons (f := 51) (args := #[.pointer (some ⟨w.heap.size + 1, 0, none⟩), .pointer (some ⟨w.heap.size + 1 + 1, 0, none⟩)]) (by simp) (by simp [go_sem]) ?_
  refine (idle51 (w.heap.size + 1) (w.heap.size + 1 + 1) w5).mono ?_
  rintro e u' w6 ⟨rfl, rfl, hb⟩
  have G := G4.grown hb
  exact ⟨.tuple #[.agg #[u0, u1, u2, u3, u4, u5, u6, u7, u8], .int .i64 0, .int .i64 0], res24 h4 h5 h6 (G.c 0 (by simp)) (G.c 1 (by simp)) (G.c 2 (by simp)) (G.c 3 (by simp)) (G.c 4 (by simp)) (G.c 5 (by simp)) (G.c 6 (by simp)) (G.c 7 (by simp)) (G.c 8 (by simp)) ((G5.grown hb).c 0 (by simp)) ((G6.grown hb).c 0 (by simp)), Below.by_only hB (by omega) (Below.only (fun k => w.heap.size ≤ k) hb) (fun k hk => hk), _, rfl, hV w6 hb⟩
set_option maxRecDepth 100000 in
set_option maxHeartbeats 6000000 in
theorem read24 (s : ByteArray) (hs : s.size ≤ maxLen) (w : World) (hT : Tabs w) :
    Calls Tryz.prog 24 #[.string s, .func (.func 25) #[] #[]] w (Gives w (parseEL s.data.toList) (.agg #[.int .i64 0, .slice none 0 0, .string ⟨#[]⟩, .string ⟨#[]⟩, .int .i64 0, .bool false, .int .i64 0, .string ⟨#[]⟩, .slice none 0 0]) (IsEx w.heap.size)) := by
  have hmf : ∀ (fn : Fn) (first cap : Array Value) (w : World), (Instr.makeFunc fn first cap).run Tryz.prog w = .ok (.func fn first cap) w := fun _ _ _ _ => rfl
  have b0 : Below w.heap.size w (((w.alloc (.cells #[.int .i64 0, .slice none 0 0, .string ⟨#[]⟩, .string ⟨#[]⟩, .int .i64 0, .bool false, .int .i64 0, .string ⟨#[]⟩, .slice none 0 0] 40)).alloc (.cells #[.int .i64 0] 3)).alloc (.cells #[.int .i64 0] 29)) := by go_grown
  have hL := fun (_ : Unit) => Lex_at s hs (((w.alloc (.cells #[.int .i64 0, .slice none 0 0, .string ⟨#[]⟩, .string ⟨#[]⟩, .int .i64 0, .bool false, .int .i64 0, .string ⟨#[]⟩, .slice none 0 0] 40)).alloc (.cells #[.int .i64 0] 3)).alloc (.cells #[.int .i64 0] 29)) (hT.below b0)
  have hl : s.data.toList.length = s.size := Array.length_toList
  generalize hF : parseEL s.data.toList = F
  unfold parseEL at hF
  rw [hl] at hF
  have hfew := lexL_few s.data.toList
  generalize lexL s.data.toList = Y at *
  obtain ⟨L, a, y⟩ := Y
  dsimp only at hL hF hfew
  replace hL : Hid _ := hL
  go_enter_defers Tryz.func24, Tryz.ntmps24
  go_upto_region 2 with ((have hh := hL.out (); go_at_call 17; (with_reducible refine Calls.mono hh ?_); clear hh hL; rintro e w1 ⟨p, cap, rfl, hcap, hws, hb1⟩; obtain ⟨B4, B5, B6, hb⟩ := start3 [.int .i64 0, .slice none 0 0, .string ⟨#[]⟩, .string ⟨#[]⟩, .int .i64 0, .bool false, .int .i64 0, .string ⟨#[]⟩, .slice none 0 0] 40 hb1; have c5 : w1.cell? ⟨w.heap.size + 1, 0, none⟩ = some (.int .i64 0) := (B5.c 0 (by decide)); have c6 : w1.cell? ⟨w.heap.size + 1 + 1, 0, none⟩ = some (.int .i64 0) := (B6.c 0 (by decide)); have f5 := B5.fr 0; have f6 := B6.fr 0))
  have hfz : ∀ j, w1.frozen? ⟨w.heap.size, j, none⟩ = false := B4.fr
  have D4 := (B4.other (w.heap.size + 1) 0 (.int .i64 a) (by omega)).other (w.heap.size + 1 + 1) 0 (.int .i64 y) (by omega)
  have D5 := (B5.set 0 (.int .i64 a)).other (w.heap.size + 1 + 1) 0 (.int .i64 y) (by omega)
  have D6 := (B6.other (w.heap.size + 1) 0 (.int .i64 a) (by omega)).set 0 (.int .i64 y)
  have hZ := (hb.setCell (p := ⟨w.heap.size + 1, 0, none⟩) (Nat.le_succ _) (.int .i64 a)).setCell (p := ⟨w.heap.size + 1 + 1, 0, none⟩) (by show _ ≤ _ + 1 + 1; omega) (.int .i64 y)
  have hz2 : ((w1.setCell ⟨w.heap.size + 1, 0, none⟩ (.int .i64 a)).setCell ⟨w.heap.size + 1 + 1, 0, none⟩ (.int .i64 y)).heap.size = w1.heap.size := by simp [World.setCell]
  have hws2 : ∀ o : Obj, WsAt (((w1.setCell ⟨w.heap.size + 1, 0, none⟩ (.int .i64 a)).setCell ⟨w.heap.size + 1 + 1, 0, none⟩ (.int .i64 y)).alloc o) w1.heap.size p L := fun o => hws _ fun k h1 h2 => by
    have h1' : w.heap.size + 3 ≤ k := by simpa using h1
    rw [(below_new _ o).block k (by rw [hz2]; exact h2), Below.heap_setCell _ _ _ _ (by show k ≠ w.heap.size + 1 + 1; omega), Below.heap_setCell _ _ _ _ (by show k ≠ w.heap.size + 1; omega)]
  rw [← hz2] at hws2
  clear hb hb1 hws B4 B5 B6 c5 c6 f5 f6 hz2 hfz b0
  generalize (w1.setCell ⟨w.heap.size + 1, 0, none⟩ (.int .i64 a)).setCell ⟨w.heap.size + 1 + 1, 0, none⟩ (.int .i64 y) = W at *
  have z0 : W.cell? ⟨w.heap.size, 0, none⟩ = some (.int .i64 0) := D4.c 0 (by decide)
  have z1 : W.cell? ⟨w.heap.size, 1, none⟩ = some (.slice none 0 0) := D4.c 1 (by decide)
  have z2 : W.cell? ⟨w.heap.size, 2, none⟩ = some (.string ⟨#[]⟩) := D4.c 2 (by decide)
  have z3 : W.cell? ⟨w.heap.size, 3, none⟩ = some (.string ⟨#[]⟩) := D4.c 3 (by decide)
  have z4 : W.cell? ⟨w.heap.size, 4, none⟩ = some (.int .i64 0) := D4.c 4 (by decide)
  have z5 : W.cell? ⟨w.heap.size, 5, none⟩ = some (.bool false) := D4.c 5 (by decide)
  have z6 : W.cell? ⟨w.heap.size, 6, none⟩ = some (.int .i64 0) := D4.c 6 (by decide)
  have z7 : W.cell? ⟨w.heap.size, 7, none⟩ = some (.string ⟨#[]⟩) := D4.c 7 (by decide)
  have z8 : W.cell? ⟨w.heap.size, 8, none⟩ = some (.slice none 0 0) := D4.c 8 (by decide)
  have xa : W.cell? ⟨w.heap.size + 1, 0, none⟩ = some (.int .i64 a) := D5.c 0 (by simp)
  have xy : W.cell? ⟨w.heap.size + 1 + 1, 0, none⟩ = some (.int .i64 y) := D6.c 0 (by simp)
  have l4 := D4.lt
  have l6 := D6.lt
  replace D5 : Blk W (w.heap.size + 1) [.int .i64 a] := D5
  replace D6 : Blk W (w.heap.size + 1 + 1) [.int .i64 y] := D6
  have x4 := D4.fr
  have x5 := D5.fr
  have x6 := D6.fr
  by_cases hy : y = 0
  · subst hy
    rw [if_pos rfl] at hF
    have hR : Rd (W.alloc (.cells #[.slice p L.length cap, .int .i64 s.size, .int .i64 0] 94)) W.heap.size s.size 0 L := ⟨⟨p, cap, by simp [go_sem], hcap, hws2 _⟩, by simp [go_sem], by simp [go_sem], fun j => by simp [go_sem], hfew, by omega⟩
    have C4 := D4.grown (below_new W (.cells #[.slice p L.length cap, .int .i64 s.size, .int .i64 0] 94))
    have C5 := D5.grown (below_new W (.cells #[.slice p L.length cap, .int .i64 s.size, .int .i64 0] 94))
    have C6 := D6.grown (below_new W (.cells #[.slice p L.length cap, .int .i64 s.size, .int .i64 0] 94))
    have oW : Only (fun k => w.heap.size ≤ k ∧ k ≤ W.heap.size) W (W.alloc (.cells #[.slice p L.length cap, .int .i64 s.size, .int .i64 0] 94)) := Below.only _ (below_new _ _)
    have hE := fun (_ : Unit) => (lay_reads W.heap.size s.size (L.length + 1)).2.2 _ 0 L (Nat.lt_succ_self _) hR
    clear hws2
    cases hr : (lay s.size (L.length + 1)).2.2 0 L with
    | bad a1 y1 =>
      rw [hr] at hE
      rw [show exprL s.size L = _ from hr] at hF
      have hF' : Res.bad a1 y1 = F := hF
      subst hF'
      replace hE : Hid _ := hE
      go_wp2_with (go_at_call 25; refine Calls.mono (hE.out ()) ?_; rintro e w2 ⟨ho, rfl⟩)
      have ho' := Only.imp (S' := fun k => w.heap.size ≤ k ∧ k ≤ W.heap.size) (fun k hk => ⟨by omega, by omega⟩) ho
      exact caught24 rfl rfl rfl rfl (Below.by_only (Below.by_only hZ (by omega) oW (fun k hk => hk.1)) (by simp; omega) ho' (fun k hk => hk.1)) (C4.only (by omega) ho) (C5.only (by omega) ho) (C6.only (by omega) ho)
    | ok x M =>
      rw [hr] at hE
      rw [show exprL s.size L = _ from hr] at hF
      have hF' : (if M = [] then Res.ok x [] else .bad (placeL s.size M) 81) = F := hF
      clear hF
      replace hE : Hid _ := hE
      go_upto_region 7 with ((have hh := hE.out (); go_at_call 25; (with_reducible refine Calls.mono hh ?_); clear hh hE; rintro e w2 ⟨ho, v, rfl, ⟨sp, sn, sc, rfl, hx⟩, hr2⟩; skip))
      have ho' := Only.imp (S' := fun k => w.heap.size ≤ k ∧ k ≤ W.heap.size) (fun k hk => ⟨by omega, by omega⟩) ho
      have hZ2 := Below.by_only (Below.by_only hZ (by omega) oW (fun k hk => hk.1)) (by simp; omega) ho' (fun k hk => hk.1)
      have l2 := hr2.lt
      have hr3 := hr2.below (below_new w2 (.cells #[.int .i64 (opE x), .slice sp sn sc, .string (txt (nmE x)), .string (txt (prE x)), .int .i64 (kE x), .bool (bE x), .int .i64 (nE x), .string (txt (tE x)), .slice none 0 0] 40))
      have hM2 := fun (_ : Unit) => mustEnd_any hr3
      have B9 := Blk.new w2 [.int .i64 (opE x), .slice sp sn sc, .string (txt (nmE x)), .string (txt (prE x)), .int .i64 (kE x), .bool (bE x), .int .i64 (nE x), .string (txt (tE x)), .slice none 0 0] 40
      have E4 := (C4.only (by omega) ho).grown (below_new w2 (.cells #[.int .i64 (opE x), .slice sp sn sc, .string (txt (nmE x)), .string (txt (prE x)), .int .i64 (kE x), .bool (bE x), .int .i64 (nE x), .string (txt (tE x)), .slice none 0 0] 40))
      have E5 := (C5.only (by omega) ho).grown (below_new w2 (.cells #[.int .i64 (opE x), .slice sp sn sc, .string (txt (nmE x)), .string (txt (prE x)), .int .i64 (kE x), .bool (bE x), .int .i64 (nE x), .string (txt (tE x)), .slice none 0 0] 40))
      have E6 := (C6.only (by omega) ho).grown (below_new w2 (.cells #[.int .i64 (opE x), .slice sp sn sc, .string (txt (nmE x)), .string (txt (prE x)), .int .i64 (kE x), .bool (bE x), .int .i64 (nE x), .string (txt (tE x)), .slice none 0 0] 40))
      have o2 : Only (fun k => w.heap.size ≤ k ∧ k ≤ W.heap.size) w2 (w2.alloc (.cells #[.int .i64 (opE x), .slice sp sn sc, .string (txt (nmE x)), .string (txt (prE x)), .int .i64 (kE x), .bool (bE x), .int .i64 (nE x), .string (txt (tE x)), .slice none 0 0] 40)) := Below.only _ (below_new _ _)
      have hZ3 := Below.by_only hZ2 (by omega) o2 (fun k hk => hk.1)
      by_cases hM : M = []
      · rw [if_pos hM] at hF' hM2
        subst hF'
        replace hM2 : Hid _ := hM2
        go_upto_region 8 with ((have hh := hM2.out (); go_at_call 31; (with_reducible refine Calls.mono hh ?_); clear hh hM2; rintro e w3 ⟨ho3, v3', rfl, hv3, hr4⟩))
        have ho3' := Only.imp (S' := fun k => w.heap.size ≤ k ∧ k ≤ W.heap.size) (fun k hk => ⟨by omega, by omega⟩) ho3
        have hZ4 := Below.by_only hZ3 (by simp; omega) ho3' (fun k hk => hk.1)
        have H4 := E4.only (by omega) ho3
        have H5 := E5.only (by omega) ho3
        have H6 := E6.only (by omega) ho3
        have H9 := B9.only (by omega) ho3
        have q40 : w3.cell? ⟨w.heap.size, 0, none⟩ = some (.int .i64 0) := H4.c 0 (by decide)
        have q90 : w3.cell? ⟨w2.heap.size, 0, none⟩ = some (.int .i64 (opE x)) := H9.c 0 (by simp)
        have q41 : w3.cell? ⟨w.heap.size, 1, none⟩ = some (.slice none 0 0) := H4.c 1 (by decide)
        have q91 : w3.cell? ⟨w2.heap.size, 1, none⟩ = some (.slice sp sn sc) := H9.c 1 (by simp)
        have q42 : w3.cell? ⟨w.heap.size, 2, none⟩ = some (.string ⟨#[]⟩) := H4.c 2 (by decide)
        have q92 : w3.cell? ⟨w2.heap.size, 2, none⟩ = some (.string (txt (nmE x))) := H9.c 2 (by simp)
        have q43 : w3.cell? ⟨w.heap.size, 3, none⟩ = some (.string ⟨#[]⟩) := H4.c 3 (by decide)
        have q93 : w3.cell? ⟨w2.heap.size, 3, none⟩ = some (.string (txt (prE x))) := H9.c 3 (by simp)
        have q44 : w3.cell? ⟨w.heap.size, 4, none⟩ = some (.int .i64 0) := H4.c 4 (by decide)
        have q94 : w3.cell? ⟨w2.heap.size, 4, none⟩ = some (.int .i64 (kE x)) := H9.c 4 (by simp)
        have q45 : w3.cell? ⟨w.heap.size, 5, none⟩ = some (.bool false) := H4.c 5 (by decide)
        have q95 : w3.cell? ⟨w2.heap.size, 5, none⟩ = some (.bool (bE x)) := H9.c 5 (by simp)
        have q46 : w3.cell? ⟨w.heap.size, 6, none⟩ = some (.int .i64 0) := H4.c 6 (by decide)
        have q96 : w3.cell? ⟨w2.heap.size, 6, none⟩ = some (.int .i64 (nE x)) := H9.c 6 (by simp)
        have q47 : w3.cell? ⟨w.heap.size, 7, none⟩ = some (.string ⟨#[]⟩) := H4.c 7 (by decide)
        have q97 : w3.cell? ⟨w2.heap.size, 7, none⟩ = some (.string (txt (tE x))) := H9.c 7 (by simp)
        have q48 : w3.cell? ⟨w.heap.size, 8, none⟩ = some (.slice none 0 0) := H4.c 8 (by decide)
        have q98 : w3.cell? ⟨w2.heap.size, 8, none⟩ = some (.slice none 0 0) := H9.c 8 (by simp)
        have q5 : w3.cell? ⟨w.heap.size + 1, 0, none⟩ = some (.int .i64 a) := H5.c 0 (by simp)
        have q6 : w3.cell? ⟨w.heap.size + 1 + 1, 0, none⟩ = some (.int .i64 0) := H6.c 0 (by simp)
        have r4 := H4.fr
        have r5 := H5.fr
        have r6 := H6.fr
        have o3 := puto24 (Only.refl (fun k => w.heap.size ≤ k ∧ k ≤ W.heap.size) w3) (R := w.heap.size) ⟨Nat.le_refl _, by omega⟩ (.int .i64 (opE x)) (.slice sp sn sc) (.string (txt (nmE x))) (.string (txt (prE x))) (.int .i64 (kE x)) (.bool (bE x)) (.int .i64 (nE x)) (.string (txt (tE x))) (.slice none 0 0)
        have o4 := (o3.set (w.heap.size + 1) 0 (.int .i64 0) ⟨by omega, by omega⟩).set (w.heap.size + 1 + 1) 0 (.int .i64 0) ⟨by omega, by omega⟩
        have G4 := ((put24 H4 (.int .i64 (opE x)) (.slice sp sn sc) (.string (txt (nmE x))) (.string (txt (prE x))) (.int .i64 (kE x)) (.bool (bE x)) (.int .i64 (nE x)) (.string (txt (tE x))) (.slice none 0 0)).other (w.heap.size + 1) 0 (.int .i64 0) (by omega)).other (w.heap.size + 1 + 1) 0 (.int .i64 0) (by omega)
        have G5 : Blk _ _ [.int .i64 0] := ((putx24 H5 (R := w.heap.size) (by omega) (.int .i64 (opE x)) (.slice sp sn sc) (.string (txt (nmE x))) (.string (txt (prE x))) (.int .i64 (kE x)) (.bool (bE x)) (.int .i64 (nE x)) (.string (txt (tE x))) (.slice none 0 0)).set 0 (.int .i64 0)).other (w.heap.size + 1 + 1) 0 (.int .i64 0) (by omega)
        have G6 : Blk _ _ [.int .i64 0] := ((putx24 H6 (R := w.heap.size) (by omega) (.int .i64 (opE x)) (.slice sp sn sc) (.string (txt (nmE x))) (.string (txt (prE x))) (.int .i64 (kE x)) (.bool (bE x)) (.int .i64 (nE x)) (.string (txt (tE x))) (.slice none 0 0)).other (w.heap.size + 1) 0 (.int .i64 0) (by omega)).set 0 (.int .i64 0)
        have l3 := H4.lt
        have hz1 : (W.alloc (.cells #[.slice p L.length cap, .int .i64 s.size, .int .i64 0] 94)).heap.size = W.heap.size + 1 := by simp
        have oT := (o2.trans ho3').trans o4
        have hB5 := Below.by_only hZ4 (by omega) o4 (fun k hk => hk.1)
        replace oT : Hid _ := oT
        replace hB5 : Hid _ := hB5
        replace G4 : Hid _ := G4
        replace G5 : Hid _ := G5
        replace G6 : Hid _ := G6
        replace hx : Hid _ := hx
        clear o3 o4 hZ4 hZ3 hZ2 hZ oW o2 ho ho' ho3 ho3' B9 E4 E5 E6 C4 C5 C6 D4 D5 D6
        go_wp2_with fail
        refine ended24 rfl rfl rfl rfl hB5.out G4.out G5.out G6.out fun w6 hb6 => ?_
        have oU := oT.out.trans (Below.only _ hb6)
        have keep : ∀ g, (W.alloc (.cells #[.slice p L.length cap, .int .i64 s.size, .int .i64 0] 94)).heap.size ≤ g → g < w2.heap.size → w6.heap[g]? = w2.heap[g]? := fun g hg hl => oU.block g hl (fun h => by omega)
        have weak : ∀ g, (W.alloc (.cells #[.slice p L.length cap, .int .i64 s.size, .int .i64 0] 94)).heap.size ≤ g → w.heap.size ≤ g := fun g hg => by omega
        exact ⟨_, _, _, rfl, ExAt.weakS weak _ _ (ExAt.same keep _ _ hx.out)⟩
      · rw [if_neg hM] at hF' hM2
        subst hF'
        replace hM2 : Hid _ := hM2
        go_wp2_with (go_at_call 31; refine Calls.mono (hM2.out ()) ?_; rintro e w3 ⟨ho3, rfl⟩)
        have ho3' := Only.imp (S' := fun k => w.heap.size ≤ k ∧ k ≤ W.heap.size) (fun k hk => ⟨by omega, by omega⟩) ho3
        exact caught24 rfl rfl rfl rfl (Below.by_only hZ3 (by simp; omega) ho3' (fun k hk => hk.1)) (E4.only (by omega) ho3) (E5.only (by omega) ho3) (E6.only (by omega) ho3)
  rw [if_neg hy] at hF
  subst hF
  replace hws2 : Hid _ := hws2
  go_wp2_with fail
  go_region
  go_wp2_with fail
  have o1 := puto24 (Only.refl (fun k => w.heap.size ≤ k ∧ k ≤ W.heap.size) W) (R := w.heap.size) ⟨Nat.le_refl _, by omega⟩ (.int .i64 0) (.slice none 0 0) (.string ⟨#[]⟩) (.string ⟨#[]⟩) (.int .i64 0) (.bool false) (.int .i64 0) (.string ⟨#[]⟩) (.slice none 0 0)
  have o2 := (o1.set (w.heap.size + 1) 0 (.int .i64 a) ⟨by omega, by omega⟩).set (w.heap.size + 1 + 1) 0 (.int .i64 y) ⟨by omega, by omega⟩
  have hB := (Below.by_only hZ (by omega) o2 (fun k hk => hk.1))
  have G4 := ((put24 D4 (.int .i64 0) (.slice none 0 0) (.string ⟨#[]⟩) (.string ⟨#[]⟩) (.int .i64 0) (.bool false) (.int .i64 0) (.string ⟨#[]⟩) (.slice none 0 0)).other (w.heap.size + 1) 0 (.int .i64 a) (by omega)).other (w.heap.size + 1 + 1) 0 (.int .i64 y) (by omega)
  have G5 : Blk _ _ [.int .i64 a] := ((putx24 D5 (R := w.heap.size) (by omega) (.int .i64 0) (.slice none 0 0) (.string ⟨#[]⟩) (.string ⟨#[]⟩) (.int .i64 0) (.bool false) (.int .i64 0) (.string ⟨#[]⟩) (.slice none 0 0)).set 0 (.int .i64 a)).other (w.heap.size + 1 + 1) 0 (.int .i64 y) (by omega)
  have G6 : Blk _ _ [.int .i64 y] := ((putx24 D6 (R := w.heap.size) (by omega) (.int .i64 0) (.slice none 0 0) (.string ⟨#[]⟩) (.string ⟨#[]⟩) (.int .i64 0) (.bool false) (.int .i64 0) (.string ⟨#[]⟩) (.slice none 0 0)).other (w.heap.size + 1) 0 (.int .i64 a) (by omega)).set 0 (.int .i64 y)
  exact refused24 rfl rfl rfl rfl hB G4 G5 G6

theorem res18 {tmps : Array Value} {w : World} {R4 R5 R6 : Nat} {v0 v1 v2 v3 v4 v5 a y : Value} (h4 : tmps.getD 4 undef = .pointer (some ⟨R4, 0, none⟩)) (h5 : tmps.getD 5 undef = .pointer (some ⟨R5, 0, none⟩)) (h6 : tmps.getD 6 undef = .pointer (some ⟨R6, 0, none⟩))
    (c0 : w.cell? ⟨R4, 0, none⟩ = some v0) (c1 : w.cell? ⟨R4, 1, none⟩ = some v1) (c2 : w.cell? ⟨R4, 2, none⟩ = some v2) (c3 : w.cell? ⟨R4, 3, none⟩ = some v3) (c4 : w.cell? ⟨R4, 4, none⟩ = some v4) (c5 : w.cell? ⟨R4, 5, none⟩ = some v5) (ca : w.cell? ⟨R5, 0, none⟩ = some a) (cy : w.cell? ⟨R6, 0, none⟩ = some y) :
    (results Tryz.f18 tmps).run Tryz.prog w = .ok (.tuple #[.agg #[v0, v1, v2, v3, v4, v5], a, y]) w := by
  have h4' : tmps[4]?.getD undef = .pointer (some ⟨R4, 0, none⟩) := by simpa using h4
  have h5' : tmps[5]?.getD undef = .pointer (some ⟨R5, 0, none⟩) := by simpa using h5
  have h6' : tmps[6]?.getD undef = .pointer (some ⟨R6, 0, none⟩) := by simpa using h6
  simp [results, Tryz.results18, h4', h5', h6', go_sem, c0, c1, c2, c3, c4, c5, ca, cy]
theorem put18 {w : World} {R : Nat} {x0 x1 x2 x3 x4 x5 : Value} (h : Blk w R [x0, x1, x2, x3, x4, x5]) (u0 u1 u2 u3 u4 u5 : Value) : Blk (((((((w.setCell ⟨R, 0, none⟩ u0).setCell ⟨R, 1, none⟩ u1).setCell ⟨R, 2, none⟩ u2).setCell ⟨R, 3, none⟩ u3).setCell ⟨R, 4, none⟩ u4).setCell ⟨R, 5, none⟩ u5)) R [u0, u1, u2, u3, u4, u5] := ((((((h.set 0 u0).set 1 u1).set 2 u2).set 3 u3).set 4 u4).set 5 u5)
theorem putx18 {w : World} {R R' : Nat} {vs : List Value} (h : Blk w R' vs) (hne : R ≠ R') (u0 u1 u2 u3 u4 u5 : Value) : Blk (((((((w.setCell ⟨R, 0, none⟩ u0).setCell ⟨R, 1, none⟩ u1).setCell ⟨R, 2, none⟩ u2).setCell ⟨R, 3, none⟩ u3).setCell ⟨R, 4, none⟩ u4).setCell ⟨R, 5, none⟩ u5)) R' vs := ((((((h.other R 0 u0 hne).other R 1 u1 hne).other R 2 u2 hne).other R 3 u3 hne).other R 4 u4 hne).other R 5 u5 hne)
theorem puto18 {S : Nat → Prop} {a w : World} (h : Only S a w) {R : Nat} (hR : S R) (u0 u1 u2 u3 u4 u5 : Value) : Only S a (((((((w.setCell ⟨R, 0, none⟩ u0).setCell ⟨R, 1, none⟩ u1).setCell ⟨R, 2, none⟩ u2).setCell ⟨R, 3, none⟩ u3).setCell ⟨R, 4, none⟩ u4).setCell ⟨R, 5, none⟩ u5)) := ((((((h.set R 0 u0 hR).set R 1 u1 hR).set R 2 u2 hR).set R 3 u3 hR).set R 4 u4 hR).set R 5 u5 hR)
theorem caught18 {w w2 : World} {act : Act} {a1 : Nat} {y1 a0 y0 : Int} {V : Qy → Value → World → Prop} (hd : act.defers = [{ target := .fn (.func 30) #[.pointer (some ⟨w.heap.size + 1, 0, none⟩), .pointer (some ⟨w.heap.size + 1 + 1, 0, none⟩)], args := #[] }])
    (h4 : act.tmps.getD 4 undef = .pointer (some ⟨w.heap.size, 0, none⟩)) (h5 : act.tmps.getD 5 undef = .pointer (some ⟨w.heap.size + 1, 0, none⟩)) (h6 : act.tmps.getD 6 undef = .pointer (some ⟨w.heap.size + 1 + 1, 0, none⟩))
    (hB : Below w.heap.size w w2) (G4 : Blk w2 w.heap.size [.slice none 0 0, .slice none 0 0, .bool false, .slice none 0 0, .slice none 0 0, .int .i64 0]) (G5 : Blk w2 (w.heap.size + 1) [.int .i64 a0]) (G6 : Blk w2 (w.heap.size + 1 + 1) [.int .i64 y0]) :
    bodyPostD Tryz.prog Tryz.f18 (Gives w (.bad a1 y1) (.agg #[.slice none 0 0, .slice none 0 0, .bool false, .slice none 0 0, .slice none 0 0, .int .i64 0]) V) (.panic [{ v := .iface 91 (refV a1 y1), recovered := false }]) act w2 := by
  show Leaves Tryz.prog Tryz.f18 act.tmps _ act.defers _ w2
  rw [hd]
  have l4 := G4.lt
  refine leaves_cons (f := 30) (args := #[.pointer (some ⟨w.heap.size + 1, 0, none⟩), .pointer (some ⟨w.heap.size + 1 + 1, 0, none⟩)]) (by simp) (by simp [go_sem]) ?_
  refine (catch30 (w.heap.size + 1) (w.heap.size + 1 + 1) a1 y1 a0 y0 [] w2 (by omega) (G5.c 0 (by simp)) (G6.c 0 (by simp)) (G5.fr 0) (G6.fr 0)).mono ?_
  rintro e u' w3 ⟨rfl, rfl, ho, ha, hy⟩
  have G := G4.only (by omega) ho
  exact ⟨.tuple #[.agg #[.slice none 0 0, .slice none 0 0, .bool false, .slice none 0 0, .slice none 0 0, .int .i64 0], .int .i64 a1, .int .i64 y1], res18 h4 h5 h6 (G.c 0 (by simp)) (G.c 1 (by simp)) (G.c 2 (by simp)) (G.c 3 (by simp)) (G.c 4 (by simp)) (G.c 5 (by simp)) ha hy, Below.by_only hB (by omega) ho (fun k hk => by omega), rfl⟩
theorem refused18 {w w5 : World} {act : Act} {a1 : Nat} {y1 : Int} {V : Qy → Value → World → Prop} (hd : act.defers = [])
    (h4 : act.tmps.getD 4 undef = .pointer (some ⟨w.heap.size, 0, none⟩)) (h5 : act.tmps.getD 5 undef = .pointer (some ⟨w.heap.size + 1, 0, none⟩)) (h6 : act.tmps.getD 6 undef = .pointer (some ⟨w.heap.size + 1 + 1, 0, none⟩))
    (hB : Below w.heap.size w w5) (G : Blk w5 w.heap.size [.slice none 0 0, .slice none 0 0, .bool false, .slice none 0 0, .slice none 0 0, .int .i64 0]) (G5 : Blk w5 (w.heap.size + 1) [.int .i64 a1]) (G6 : Blk w5 (w.heap.size + 1 + 1) [.int .i64 y1]) :
    bodyPostD Tryz.prog Tryz.f18 (Gives w (.bad a1 y1) (.agg #[.slice none 0 0, .slice none 0 0, .bool false, .slice none 0 0, .slice none 0 0, .int .i64 0]) V) .ret act w5.drew := by
  show Leaves Tryz.prog Tryz.f18 act.tmps _ act.defers _ w5.drew
  rw [hd]
  have G' := G.drew
  exact ⟨.tuple #[.agg #[.slice none 0 0, .slice none 0 0, .bool false, .slice none 0 0, .slice none 0 0, .int .i64 0], .int .i64 a1, .int .i64 y1], res18 h4 h5 h6 (G'.c 0 (by simp)) (G'.c 1 (by simp)) (G'.c 2 (by simp)) (G'.c 3 (by simp)) (G'.c 4 (by simp)) (G'.c 5 (by simp)) (G5.drew.c 0 (by simp)) (G6.drew.c 0 (by simp)), ⟨hB.os, hB.tape, hB.output, hB.size, hB.block⟩, rfl⟩
theorem ended18 {w w5 : World} {act : Act} {x : Qy} {V : Qy → Value → World → Prop} {z u0 u1 u2 u3 u4 u5 : Value} (hd : act.defers = [{ target := .fn (.func 30) #[.pointer (some ⟨w.heap.size + 1, 0, none⟩), .pointer (some ⟨w.heap.size + 1 + 1, 0, none⟩)], args := #[] }])
    (h4 : act.tmps.getD 4 undef = .pointer (some ⟨w.heap.size, 0, none⟩)) (h5 : act.tmps.getD 5 undef = .pointer (some ⟨w.heap.size + 1, 0, none⟩)) (h6 : act.tmps.getD 6 undef = .pointer (some ⟨w.heap.size + 1 + 1, 0, none⟩))
    (hB : Below w.heap.size w w5) (G4 : Blk w5 w.heap.size [u0, u1, u2, u3, u4, u5]) (G5 : Blk w5 (w.heap.size + 1) [.int .i64 0]) (G6 : Blk w5 (w.heap.size + 1 + 1) [.int .i64 0]) (hV : ∀ w6, Below w5.heap.size w5 w6 → V x (.agg #[u0, u1, u2, u3, u4, u5]) w6) :
    bodyPostD Tryz.prog Tryz.f18 (Gives w (.ok x []) z V) .ret act w5 := by
  show Leaves Tryz.prog Tryz.f18 act.tmps _ act.defers _ w5
  rw [hd]
  have l4 := G4.lt
  refine leaves_cons (f := 30) (args := #[.pointer (some ⟨w.heap.size + 1, 0, none⟩), .pointer (some ⟨w.heap.size + 1 + 1, 0, none⟩)]) (by simp) (by simp [go_sem]) ?_
  refine (idle30 (w.heap.size + 1) (w.heap.size + 1 + 1) w5).mono ?_
  rintro e u' w6 ⟨rfl, rfl, hb⟩
  have G := G4.grown hb
  exact ⟨.tuple #[.agg #[u0, u1, u2, u3, u4, u5], .int .i64 0, .int .i64 0], res18 h4 h5 h6 (G.c 0 (by simp)) (G.c 1 (by simp)) (G.c 2 (by simp)) (G.c 3 (by simp)) (G.c 4 (by simp)) (G.c 5 (by simp)) ((G5.grown hb).c 0 (by simp)) ((G6.grown hb).c 0 (by simp)), Below.by_only hB (by omega) (Below.only (fun k => w.heap.size ≤ k) hb) (fun k hk => hk), _, rfl, hV w6 hb⟩
set_option maxRecDepth 100000 in
set_option maxHeartbeats 6000000 in
theorem read18 (s : ByteArray) (hs : s.size ≤ maxLen) (w : World) (hT : Tabs w) :
    Calls Tryz.prog 18 #[.string s, .func (.func 19) #[] #[]] w (Gives w (parseL s.data.toList) (.agg #[.slice none 0 0, .slice none 0 0, .bool false, .slice none 0 0, .slice none 0 0, .int .i64 0]) (IsQ w.heap.size)) := by
  have hmf : ∀ (fn : Fn) (first cap : Array Value) (w : World), (Instr.makeFunc fn first cap).run Tryz.prog w = .ok (.func fn first cap) w := fun _ _ _ _ => rfl
  have b0 : Below w.heap.size w (((w.alloc (.cells #[.slice none 0 0, .slice none 0 0, .bool false, .slice none 0 0, .slice none 0 0, .int .i64 0] 28)).alloc (.cells #[.int .i64 0] 3)).alloc (.cells #[.int .i64 0] 29)) := by go_grown
  have hL := fun (_ : Unit) => Lex_at s hs (((w.alloc (.cells #[.slice none 0 0, .slice none 0 0, .bool false, .slice none 0 0, .slice none 0 0, .int .i64 0] 28)).alloc (.cells #[.int .i64 0] 3)).alloc (.cells #[.int .i64 0] 29)) (hT.below b0)
  have hl : s.data.toList.length = s.size := Array.length_toList
  generalize hF : parseL s.data.toList = F
  unfold parseL at hF
  rw [hl] at hF
  have hfew := lexL_few s.data.toList
  generalize lexL s.data.toList = Y at *
  obtain ⟨L, a, y⟩ := Y
  dsimp only at hL hF hfew
  replace hL : Hid _ := hL
  go_enter_defers Tryz.func18, Tryz.ntmps18
  go_upto_region 2 with ((have hh := hL.out (); go_at_call 17; (with_reducible refine Calls.mono hh ?_); clear hh hL; rintro e w1 ⟨p, cap, rfl, hcap, hws, hb1⟩; obtain ⟨B4, B5, B6, hb⟩ := start3 [.slice none 0 0, .slice none 0 0, .bool false, .slice none 0 0, .slice none 0 0, .int .i64 0] 28 hb1; have c5 : w1.cell? ⟨w.heap.size + 1, 0, none⟩ = some (.int .i64 0) := (B5.c 0 (by decide)); have c6 : w1.cell? ⟨w.heap.size + 1 + 1, 0, none⟩ = some (.int .i64 0) := (B6.c 0 (by decide)); have f5 := B5.fr 0; have f6 := B6.fr 0))
  have hfz : ∀ j, w1.frozen? ⟨w.heap.size, j, none⟩ = false := B4.fr
  have D4 := (B4.other (w.heap.size + 1) 0 (.int .i64 a) (by omega)).other (w.heap.size + 1 + 1) 0 (.int .i64 y) (by omega)
  have D5 := (B5.set 0 (.int .i64 a)).other (w.heap.size + 1 + 1) 0 (.int .i64 y) (by omega)
  have D6 := (B6.other (w.heap.size + 1) 0 (.int .i64 a) (by omega)).set 0 (.int .i64 y)
  have hZ := (hb.setCell (p := ⟨w.heap.size + 1, 0, none⟩) (Nat.le_succ _) (.int .i64 a)).setCell (p := ⟨w.heap.size + 1 + 1, 0, none⟩) (by show _ ≤ _ + 1 + 1; omega) (.int .i64 y)
  have hz2 : ((w1.setCell ⟨w.heap.size + 1, 0, none⟩ (.int .i64 a)).setCell ⟨w.heap.size + 1 + 1, 0, none⟩ (.int .i64 y)).heap.size = w1.heap.size := by simp [World.setCell]
  have hws2 : ∀ o : Obj, WsAt (((w1.setCell ⟨w.heap.size + 1, 0, none⟩ (.int .i64 a)).setCell ⟨w.heap.size + 1 + 1, 0, none⟩ (.int .i64 y)).alloc o) w1.heap.size p L := fun o => hws _ fun k h1 h2 => by
    have h1' : w.heap.size + 3 ≤ k := by simpa using h1
    rw [(below_new _ o).block k (by rw [hz2]; exact h2), Below.heap_setCell _ _ _ _ (by show k ≠ w.heap.size + 1 + 1; omega), Below.heap_setCell _ _ _ _ (by show k ≠ w.heap.size + 1; omega)]
  rw [← hz2] at hws2
  clear hb hb1 hws B4 B5 B6 c5 c6 f5 f6 hz2 hfz b0
  generalize (w1.setCell ⟨w.heap.size + 1, 0, none⟩ (.int .i64 a)).setCell ⟨w.heap.size + 1 + 1, 0, none⟩ (.int .i64 y) = W at *
  have z0 : W.cell? ⟨w.heap.size, 0, none⟩ = some (.slice none 0 0) := D4.c 0 (by decide)
  have z1 : W.cell? ⟨w.heap.size, 1, none⟩ = some (.slice none 0 0) := D4.c 1 (by decide)
  have z2 : W.cell? ⟨w.heap.size, 2, none⟩ = some (.bool false) := D4.c 2 (by decide)
  have z3 : W.cell? ⟨w.heap.size, 3, none⟩ = some (.slice none 0 0) := D4.c 3 (by decide)
  have z4 : W.cell? ⟨w.heap.size, 4, none⟩ = some (.slice none 0 0) := D4.c 4 (by decide)
  have z5 : W.cell? ⟨w.heap.size, 5, none⟩ = some (.int .i64 0) := D4.c 5 (by decide)
  have xa : W.cell? ⟨w.heap.size + 1, 0, none⟩ = some (.int .i64 a) := D5.c 0 (by simp)
  have xy : W.cell? ⟨w.heap.size + 1 + 1, 0, none⟩ = some (.int .i64 y) := D6.c 0 (by simp)
  have l4 := D4.lt
  have l6 := D6.lt
  replace D5 : Blk W (w.heap.size + 1) [.int .i64 a] := D5
  replace D6 : Blk W (w.heap.size + 1 + 1) [.int .i64 y] := D6
  have x4 := D4.fr
  have x5 := D5.fr
  have x6 := D6.fr
  by_cases hy : y = 0
  · subst hy
    rw [if_pos rfl] at hF
    have hR : Rd (W.alloc (.cells #[.slice p L.length cap, .int .i64 s.size, .int .i64 0] 94)) W.heap.size s.size 0 L := ⟨⟨p, cap, by simp [go_sem], hcap, hws2 _⟩, by simp [go_sem], by simp [go_sem], fun j => by simp [go_sem], hfew, by omega⟩
    have C4 := D4.grown (below_new W (.cells #[.slice p L.length cap, .int .i64 s.size, .int .i64 0] 94))
    have C5 := D5.grown (below_new W (.cells #[.slice p L.length cap, .int .i64 s.size, .int .i64 0] 94))
    have C6 := D6.grown (below_new W (.cells #[.slice p L.length cap, .int .i64 s.size, .int .i64 0] 94))
    have oW : Only (fun k => w.heap.size ≤ k ∧ k ≤ W.heap.size) W (W.alloc (.cells #[.slice p L.length cap, .int .i64 s.size, .int .i64 0] 94)) := Below.only _ (below_new _ _)
    have hE := fun (_ : Unit) => query_any (lay_reads W.heap.size s.size (L.length + 1)).2.2 (Nat.lt_succ_self _) hR
    clear hws2
    cases hr : queryP s.size (L.length + 1) L with
    | bad a1 y1 =>
      rw [hr] at hE
      rw [hr] at hF
      have hF' : Res.bad a1 y1 = F := hF
      subst hF'
      replace hE : Hid _ := hE
      go_wp2_with (go_at_call 19; refine Calls.mono (hE.out ()) ?_; rintro e w2 ⟨ho, rfl⟩)
      have ho' := Only.imp (S' := fun k => w.heap.size ≤ k ∧ k ≤ W.heap.size) (fun k hk => ⟨by omega, by omega⟩) ho
      exact caught18 rfl rfl rfl rfl (Below.by_only (Below.by_only hZ (by omega) oW (fun k hk => hk.1)) (by simp; omega) ho' (fun k hk => hk.1)) (C4.only (by omega) ho) (C5.only (by omega) ho) (C6.only (by omega) ho)
    | ok x M =>
      rw [hr] at hE
      rw [hr] at hF
      have hF' : (if M = [] then Res.ok x [] else .bad (placeL s.size M) 81) = F := hF
      clear hF
      replace hE : Hid _ := hE
      go_upto_region 7 with ((have hh := hE.out (); go_at_call 19; (with_reducible refine Calls.mono hh ?_); clear hh hE; rintro e w2 ⟨ho, v, rfl, ⟨v0, v1, v3, v4, rfl, hx0, hx1, hx3, hx4⟩, hr2⟩; obtain ⟨p0, c0, rfl⟩ := hx0.val; obtain ⟨p1, c1, rfl⟩ := hx1.val; obtain ⟨p3, c3, rfl⟩ := hx3.val; obtain ⟨p4, c4, rfl⟩ := hx4.val; have hx := And.intro hx0 (And.intro hx1 (And.intro hx3 hx4))))
      have ho' := Only.imp (S' := fun k => w.heap.size ≤ k ∧ k ≤ W.heap.size) (fun k hk => ⟨by omega, by omega⟩) ho
      have hZ2 := Below.by_only (Below.by_only hZ (by omega) oW (fun k hk => hk.1)) (by simp; omega) ho' (fun k hk => hk.1)
      have l2 := hr2.lt
      have hr3 := hr2.below (below_new w2 (.cells #[.slice p0 x.pats.length c0, .slice p1 x.where'.length c1, .bool x.dist, .slice p3 x.items.length c3, .slice p4 x.keys.length c4, .int .i64 x.lim] 28))
      have hM2 := fun (_ : Unit) => mustEnd_any hr3
      have B9 := Blk.new w2 [.slice p0 x.pats.length c0, .slice p1 x.where'.length c1, .bool x.dist, .slice p3 x.items.length c3, .slice p4 x.keys.length c4, .int .i64 x.lim] 28
      have E4 := (C4.only (by omega) ho).grown (below_new w2 (.cells #[.slice p0 x.pats.length c0, .slice p1 x.where'.length c1, .bool x.dist, .slice p3 x.items.length c3, .slice p4 x.keys.length c4, .int .i64 x.lim] 28))
      have E5 := (C5.only (by omega) ho).grown (below_new w2 (.cells #[.slice p0 x.pats.length c0, .slice p1 x.where'.length c1, .bool x.dist, .slice p3 x.items.length c3, .slice p4 x.keys.length c4, .int .i64 x.lim] 28))
      have E6 := (C6.only (by omega) ho).grown (below_new w2 (.cells #[.slice p0 x.pats.length c0, .slice p1 x.where'.length c1, .bool x.dist, .slice p3 x.items.length c3, .slice p4 x.keys.length c4, .int .i64 x.lim] 28))
      have o2 : Only (fun k => w.heap.size ≤ k ∧ k ≤ W.heap.size) w2 (w2.alloc (.cells #[.slice p0 x.pats.length c0, .slice p1 x.where'.length c1, .bool x.dist, .slice p3 x.items.length c3, .slice p4 x.keys.length c4, .int .i64 x.lim] 28)) := Below.only _ (below_new _ _)
      have hZ3 := Below.by_only hZ2 (by omega) o2 (fun k hk => hk.1)
      by_cases hM : M = []
      · rw [if_pos hM] at hF' hM2
        subst hF'
        replace hM2 : Hid _ := hM2
        go_upto_region 8 with ((have hh := hM2.out (); go_at_call 31; (with_reducible refine Calls.mono hh ?_); clear hh hM2; rintro e w3 ⟨ho3, v3', rfl, hv3, hr4⟩))
        have ho3' := Only.imp (S' := fun k => w.heap.size ≤ k ∧ k ≤ W.heap.size) (fun k hk => ⟨by omega, by omega⟩) ho3
        have hZ4 := Below.by_only hZ3 (by simp; omega) ho3' (fun k hk => hk.1)
        have H4 := E4.only (by omega) ho3
        have H5 := E5.only (by omega) ho3
        have H6 := E6.only (by omega) ho3
        have H9 := B9.only (by omega) ho3
        have q40 : w3.cell? ⟨w.heap.size, 0, none⟩ = some (.slice none 0 0) := H4.c 0 (by decide)
        have q90 : w3.cell? ⟨w2.heap.size, 0, none⟩ = some (.slice p0 x.pats.length c0) := H9.c 0 (by simp)
        have q41 : w3.cell? ⟨w.heap.size, 1, none⟩ = some (.slice none 0 0) := H4.c 1 (by decide)
        have q91 : w3.cell? ⟨w2.heap.size, 1, none⟩ = some (.slice p1 x.where'.length c1) := H9.c 1 (by simp)
        have q42 : w3.cell? ⟨w.heap.size, 2, none⟩ = some (.bool false) := H4.c 2 (by decide)
        have q92 : w3.cell? ⟨w2.heap.size, 2, none⟩ = some (.bool x.dist) := H9.c 2 (by simp)
        have q43 : w3.cell? ⟨w.heap.size, 3, none⟩ = some (.slice none 0 0) := H4.c 3 (by decide)
        have q93 : w3.cell? ⟨w2.heap.size, 3, none⟩ = some (.slice p3 x.items.length c3) := H9.c 3 (by simp)
        have q44 : w3.cell? ⟨w.heap.size, 4, none⟩ = some (.slice none 0 0) := H4.c 4 (by decide)
        have q94 : w3.cell? ⟨w2.heap.size, 4, none⟩ = some (.slice p4 x.keys.length c4) := H9.c 4 (by simp)
        have q45 : w3.cell? ⟨w.heap.size, 5, none⟩ = some (.int .i64 0) := H4.c 5 (by decide)
        have q95 : w3.cell? ⟨w2.heap.size, 5, none⟩ = some (.int .i64 x.lim) := H9.c 5 (by simp)
        have q5 : w3.cell? ⟨w.heap.size + 1, 0, none⟩ = some (.int .i64 a) := H5.c 0 (by simp)
        have q6 : w3.cell? ⟨w.heap.size + 1 + 1, 0, none⟩ = some (.int .i64 0) := H6.c 0 (by simp)
        have r4 := H4.fr
        have r5 := H5.fr
        have r6 := H6.fr
        have o3 := puto18 (Only.refl (fun k => w.heap.size ≤ k ∧ k ≤ W.heap.size) w3) (R := w.heap.size) ⟨Nat.le_refl _, by omega⟩ (.slice p0 x.pats.length c0) (.slice p1 x.where'.length c1) (.bool x.dist) (.slice p3 x.items.length c3) (.slice p4 x.keys.length c4) (.int .i64 x.lim)
        have o4 := (o3.set (w.heap.size + 1) 0 (.int .i64 0) ⟨by omega, by omega⟩).set (w.heap.size + 1 + 1) 0 (.int .i64 0) ⟨by omega, by omega⟩
        have G4 := ((put18 H4 (.slice p0 x.pats.length c0) (.slice p1 x.where'.length c1) (.bool x.dist) (.slice p3 x.items.length c3) (.slice p4 x.keys.length c4) (.int .i64 x.lim)).other (w.heap.size + 1) 0 (.int .i64 0) (by omega)).other (w.heap.size + 1 + 1) 0 (.int .i64 0) (by omega)
        have G5 : Blk _ _ [.int .i64 0] := ((putx18 H5 (R := w.heap.size) (by omega) (.slice p0 x.pats.length c0) (.slice p1 x.where'.length c1) (.bool x.dist) (.slice p3 x.items.length c3) (.slice p4 x.keys.length c4) (.int .i64 x.lim)).set 0 (.int .i64 0)).other (w.heap.size + 1 + 1) 0 (.int .i64 0) (by omega)
        have G6 : Blk _ _ [.int .i64 0] := ((putx18 H6 (R := w.heap.size) (by omega) (.slice p0 x.pats.length c0) (.slice p1 x.where'.length c1) (.bool x.dist) (.slice p3 x.items.length c3) (.slice p4 x.keys.length c4) (.int .i64 x.lim)).other (w.heap.size + 1) 0 (.int .i64 0) (by omega)).set 0 (.int .i64 0)
        have l3 := H4.lt
        have hz1 : (W.alloc (.cells #[.slice p L.length cap, .int .i64 s.size, .int .i64 0] 94)).heap.size = W.heap.size + 1 := by simp
        have oT := (o2.trans ho3').trans o4
        have hB5 := Below.by_only hZ4 (by omega) o4 (fun k hk => hk.1)
        replace oT : Hid _ := oT
        replace hB5 : Hid _ := hB5
        replace G4 : Hid _ := G4
        replace G5 : Hid _ := G5
        replace G6 : Hid _ := G6
        replace hx : Hid _ := hx
        clear o3 o4 hZ4 hZ3 hZ2 hZ oW o2 ho ho' ho3 ho3' B9 E4 E5 E6 C4 C5 C6 D4 D5 D6
        go_wp2_with fail
        refine ended18 rfl rfl rfl rfl hB5.out G4.out G5.out G6.out fun w6 hb6 => ?_
        have oU := oT.out.trans (Below.only _ hb6)
        have keep : ∀ g, (W.alloc (.cells #[.slice p L.length cap, .int .i64 s.size, .int .i64 0] 94)).heap.size ≤ g → g < w2.heap.size → w6.heap[g]? = w2.heap[g]? := fun g hg hl => oU.block g hl (fun h => by omega)
        have weak : ∀ g, (W.alloc (.cells #[.slice p L.length cap, .int .i64 s.size, .int .i64 0] 94)).heap.size ≤ g → w.heap.size ≤ g := fun g hg => by omega
        exact ⟨_, _, _, _, rfl, (hx.out.1.keep keep).weak weak, (hx.out.2.1.keep keep).weak weak, (hx.out.2.2.1.keep keep).weak weak, (hx.out.2.2.2.keep keep).weak weak⟩
      · rw [if_neg hM] at hF' hM2
        subst hF'
        replace hM2 : Hid _ := hM2
        go_wp2_with (go_at_call 31; refine Calls.mono (hM2.out ()) ?_; rintro e w3 ⟨ho3, rfl⟩)
        have ho3' := Only.imp (S' := fun k => w.heap.size ≤ k ∧ k ≤ W.heap.size) (fun k hk => ⟨by omega, by omega⟩) ho3
        exact caught18 rfl rfl rfl rfl (Below.by_only hZ3 (by simp; omega) ho3' (fun k hk => hk.1)) (E4.only (by omega) ho3) (E5.only (by omega) ho3) (E6.only (by omega) ho3)
  rw [if_neg hy] at hF
  subst hF
  replace hws2 : Hid _ := hws2
  go_wp2_with fail
  go_region
  go_wp2_with fail
  have o1 := puto18 (Only.refl (fun k => w.heap.size ≤ k ∧ k ≤ W.heap.size) W) (R := w.heap.size) ⟨Nat.le_refl _, by omega⟩ (.slice none 0 0) (.slice none 0 0) (.bool false) (.slice none 0 0) (.slice none 0 0) (.int .i64 0)
  have o2 := (o1.set (w.heap.size + 1) 0 (.int .i64 a) ⟨by omega, by omega⟩).set (w.heap.size + 1 + 1) 0 (.int .i64 y) ⟨by omega, by omega⟩
  have hB := (Below.by_only hZ (by omega) o2 (fun k hk => hk.1))
  have G4 := ((put18 D4 (.slice none 0 0) (.slice none 0 0) (.bool false) (.slice none 0 0) (.slice none 0 0) (.int .i64 0)).other (w.heap.size + 1) 0 (.int .i64 a) (by omega)).other (w.heap.size + 1 + 1) 0 (.int .i64 y) (by omega)
  have G5 : Blk _ _ [.int .i64 a] := ((putx18 D5 (R := w.heap.size) (by omega) (.slice none 0 0) (.slice none 0 0) (.bool false) (.slice none 0 0) (.slice none 0 0) (.int .i64 0)).set 0 (.int .i64 a)).other (w.heap.size + 1 + 1) 0 (.int .i64 y) (by omega)
  have G6 : Blk _ _ [.int .i64 y] := ((putx18 D6 (R := w.heap.size) (by omega) (.slice none 0 0) (.slice none 0 0) (.bool false) (.slice none 0 0) (.slice none 0 0) (.int .i64 0)).other (w.heap.size + 1) 0 (.int .i64 a) (by omega)).set 0 (.int .i64 y)
  exact refused18 rfl rfl rfl rfl hB G4 G5 G6
end Go.Proofs.YtefenbonjepjgaaGreatDoor
namespace Go.Proofs.YtefenbonjepjgaaGreatDoor
open Go.ChangeShapes Go.WideShapes Go.ChangeAt Go.RowKit
set_option linter.unusedSimpArgs false
set_option linter.unusedVariables false

theorem res13 {tmps : Array Value} {w : World} {R2 : Nat} {v0 v1 v2 v3 v4 v5 v6 v7 v8 a y : Value} (h2 : tmps.getD 2 undef = .pointer (some ⟨R2, 0, none⟩)) (h3 : tmps.getD 3 undef = a) (h4 : tmps.getD 4 undef = y)
    (c0 : w.cell? ⟨R2, 0, none⟩ = some v0) (c1 : w.cell? ⟨R2, 1, none⟩ = some v1) (c2 : w.cell? ⟨R2, 2, none⟩ = some v2) (c3 : w.cell? ⟨R2, 3, none⟩ = some v3) (c4 : w.cell? ⟨R2, 4, none⟩ = some v4) (c5 : w.cell? ⟨R2, 5, none⟩ = some v5) (c6 : w.cell? ⟨R2, 6, none⟩ = some v6) (c7 : w.cell? ⟨R2, 7, none⟩ = some v7) (c8 : w.cell? ⟨R2, 8, none⟩ = some v8) :
    (results Tryz.f13 tmps).run Tryz.prog w = .ok (.tuple #[.agg #[v0, v1, v2, v3, v4, v5, v6, v7, v8], a, y]) w := by
  have h2' : tmps[2]?.getD undef = .pointer (some ⟨R2, 0, none⟩) := by simpa using h2
  have h3' : tmps[3]?.getD undef = a := by simpa using h3
  have h4' : tmps[4]?.getD undef = y := by simpa using h4
  simp [results, Tryz.results13, h2', h3', h4', go_sem, c0, c1, c2, c3, c4, c5, c6, c7, c8]
set_option maxRecDepth 100000 in
set_option maxHeartbeats 4000000 in
theorem parse13 (s : ByteArray) (hs : s.size ≤ maxLen) (w : World) (hT : Tabs w) :
    Calls Tryz.prog 13 #[.string s] w (Gives w (parseEL s.data.toList) (.agg #[.int .i64 0, .slice none 0 0, .string ⟨#[]⟩, .string ⟨#[]⟩, .int .i64 0, .bool false, .int .i64 0, .string ⟨#[]⟩, .slice none 0 0]) (IsEx w.heap.size)) := by
  have b0 := below_new w (.cells #[.int .i64 0, .slice none 0 0, .string ⟨#[]⟩, .string ⟨#[]⟩, .int .i64 0, .bool false, .int .i64 0, .string ⟨#[]⟩, .slice none 0 0] 40)
  have hE := fun (_ : Unit) => read24 s hs (w.alloc (.cells #[.int .i64 0, .slice none 0 0, .string ⟨#[]⟩, .string ⟨#[]⟩, .int .i64 0, .bool false, .int .i64 0, .string ⟨#[]⟩, .slice none 0 0] 40)) (hT.below b0)
  have B0 := Blk.new w [.int .i64 0, .slice none 0 0, .string ⟨#[]⟩, .string ⟨#[]⟩, .int .i64 0, .bool false, .int .i64 0, .string ⟨#[]⟩, .slice none 0 0] 40
  have hz0 : (w.alloc (.cells #[.int .i64 0, .slice none 0 0, .string ⟨#[]⟩, .string ⟨#[]⟩, .int .i64 0, .bool false, .int .i64 0, .string ⟨#[]⟩, .slice none 0 0] 40)).heap.size = w.heap.size + 1 := by simp
  have oz : Only (fun k => w.heap.size ≤ k) w (w.alloc (.cells #[.int .i64 0, .slice none 0 0, .string ⟨#[]⟩, .string ⟨#[]⟩, .int .i64 0, .bool false, .int .i64 0, .string ⟨#[]⟩, .slice none 0 0] 40)) := Below.only _ b0
  have bz : Below w.heap.size w w := Below.refl _ _
  cases hr : parseEL s.data.toList with
  | bad a1 y1 =>
    rw [hr] at hE
    replace hE : Hid _ := hE
    go_enter Tryz.func13, Tryz.ntmps13
    go_wp2_with ((have hh := hE.out (); go_at_call 24; (with_reducible refine Calls.mono hh ?_); clear hh hE; rintro e w2 ⟨hb, rfl⟩; have B2 := B0.grown hb; have r4 := B2.fr; have q0 : w2.cell? ⟨w.heap.size, 0, none⟩ = some (.int .i64 0) := (B2.c 0 (by decide)); have q1 : w2.cell? ⟨w.heap.size, 1, none⟩ = some (.slice none 0 0) := (B2.c 1 (by decide)); have q2 : w2.cell? ⟨w.heap.size, 2, none⟩ = some (.string ⟨#[]⟩) := (B2.c 2 (by decide)); have q3 : w2.cell? ⟨w.heap.size, 3, none⟩ = some (.string ⟨#[]⟩) := (B2.c 3 (by decide)); have q4 : w2.cell? ⟨w.heap.size, 4, none⟩ = some (.int .i64 0) := (B2.c 4 (by decide)); have q5 : w2.cell? ⟨w.heap.size, 5, none⟩ = some (.bool false) := (B2.c 5 (by decide)); have q6 : w2.cell? ⟨w.heap.size, 6, none⟩ = some (.int .i64 0) := (B2.c 6 (by decide)); have q7 : w2.cell? ⟨w.heap.size, 7, none⟩ = some (.string ⟨#[]⟩) := (B2.c 7 (by decide)); have q8 : w2.cell? ⟨w.heap.size, 8, none⟩ = some (.slice none 0 0) := (B2.c 8 (by decide))))
    have o2 := puto24 ((oz.trans (Below.only (fun k => w.heap.size ≤ k) hb))) (R := w.heap.size) (Nat.le_refl _) (.int .i64 0) (.slice none 0 0) (.string ⟨#[]⟩) (.string ⟨#[]⟩) (.int .i64 0) (.bool false) (.int .i64 0) (.string ⟨#[]⟩) (.slice none 0 0)
    have G4 := put24 B2 (.int .i64 0) (.slice none 0 0) (.string ⟨#[]⟩) (.string ⟨#[]⟩) (.int .i64 0) (.bool false) (.int .i64 0) (.string ⟨#[]⟩) (.slice none 0 0)
    exact ⟨rfl, .tuple #[.agg #[.int .i64 0, .slice none 0 0, .string ⟨#[]⟩, .string ⟨#[]⟩, .int .i64 0, .bool false, .int .i64 0, .string ⟨#[]⟩, .slice none 0 0], .int .i64 a1, .int .i64 y1], res13 (R2 := w.heap.size) rfl rfl rfl (G4.c 0 (by decide)) (G4.c 1 (by decide)) (G4.c 2 (by decide)) (G4.c 3 (by decide)) (G4.c 4 (by decide)) (G4.c 5 (by decide)) (G4.c 6 (by decide)) (G4.c 7 (by decide)) (G4.c 8 (by decide)), Below.by_only bz (Nat.le_refl _) o2 (fun k hk => hk), rfl⟩
  | ok x M =>
    rw [hr] at hE
    replace hE : Hid _ := hE
    go_enter Tryz.func13, Tryz.ntmps13
    go_wp2_with ((have hh := hE.out (); go_at_call 24; (with_reducible refine Calls.mono hh ?_); clear hh hE; rintro e w2 ⟨hb, v, rfl, sp, sn, sc, rfl, hx⟩; skip; replace hx : Hid _ := hx; have B2 := B0.grown hb; have r4 := B2.fr; have q0 : w2.cell? ⟨w.heap.size, 0, none⟩ = some (.int .i64 0) := (B2.c 0 (by decide)); have q1 : w2.cell? ⟨w.heap.size, 1, none⟩ = some (.slice none 0 0) := (B2.c 1 (by decide)); have q2 : w2.cell? ⟨w.heap.size, 2, none⟩ = some (.string ⟨#[]⟩) := (B2.c 2 (by decide)); have q3 : w2.cell? ⟨w.heap.size, 3, none⟩ = some (.string ⟨#[]⟩) := (B2.c 3 (by decide)); have q4 : w2.cell? ⟨w.heap.size, 4, none⟩ = some (.int .i64 0) := (B2.c 4 (by decide)); have q5 : w2.cell? ⟨w.heap.size, 5, none⟩ = some (.bool false) := (B2.c 5 (by decide)); have q6 : w2.cell? ⟨w.heap.size, 6, none⟩ = some (.int .i64 0) := (B2.c 6 (by decide)); have q7 : w2.cell? ⟨w.heap.size, 7, none⟩ = some (.string ⟨#[]⟩) := (B2.c 7 (by decide)); have q8 : w2.cell? ⟨w.heap.size, 8, none⟩ = some (.slice none 0 0) := (B2.c 8 (by decide))))
    have o1 := puto24 (Only.refl (fun k => k = w.heap.size) w2) (R := w.heap.size) rfl (.int .i64 (opE x)) (.slice sp sn sc) (.string (txt (nmE x))) (.string (txt (prE x))) (.int .i64 (kE x)) (.bool (bE x)) (.int .i64 (nE x)) (.string (txt (tE x))) (.slice none 0 0)
    have o2 := puto24 ((oz.trans (Below.only (fun k => w.heap.size ≤ k) hb))) (R := w.heap.size) (Nat.le_refl _) (.int .i64 (opE x)) (.slice sp sn sc) (.string (txt (nmE x))) (.string (txt (prE x))) (.int .i64 (kE x)) (.bool (bE x)) (.int .i64 (nE x)) (.string (txt (tE x))) (.slice none 0 0)
    have G4 := put24 B2 (.int .i64 (opE x)) (.slice sp sn sc) (.string (txt (nmE x))) (.string (txt (prE x))) (.int .i64 (kE x)) (.bool (bE x)) (.int .i64 (nE x)) (.string (txt (tE x))) (.slice none 0 0)
    have keep : ∀ g, (w.alloc (.cells #[.int .i64 0, .slice none 0 0, .string ⟨#[]⟩, .string ⟨#[]⟩, .int .i64 0, .bool false, .int .i64 0, .string ⟨#[]⟩, .slice none 0 0] 40)).heap.size ≤ g → g < w2.heap.size → ((((((((((w2.setCell ⟨w.heap.size, 0, none⟩ (.int .i64 (opE x))).setCell ⟨w.heap.size, 1, none⟩ (.slice sp sn sc)).setCell ⟨w.heap.size, 2, none⟩ (.string (txt (nmE x)))).setCell ⟨w.heap.size, 3, none⟩ (.string (txt (prE x)))).setCell ⟨w.heap.size, 4, none⟩ (.int .i64 (kE x))).setCell ⟨w.heap.size, 5, none⟩ (.bool (bE x))).setCell ⟨w.heap.size, 6, none⟩ (.int .i64 (nE x))).setCell ⟨w.heap.size, 7, none⟩ (.string (txt (tE x)))).setCell ⟨w.heap.size, 8, none⟩ (.slice none 0 0))).heap[g]? = w2.heap[g]? := fun g hg hl => o1.block g hl (fun h => by omega)
    have weak : ∀ g, (w.alloc (.cells #[.int .i64 0, .slice none 0 0, .string ⟨#[]⟩, .string ⟨#[]⟩, .int .i64 0, .bool false, .int .i64 0, .string ⟨#[]⟩, .slice none 0 0] 40)).heap.size ≤ g → w.heap.size ≤ g := fun g hg => by omega
    exact ⟨rfl, .tuple #[.agg #[.int .i64 (opE x), .slice sp sn sc, .string (txt (nmE x)), .string (txt (prE x)), .int .i64 (kE x), .bool (bE x), .int .i64 (nE x), .string (txt (tE x)), .slice none 0 0], .int .i64 0, .int .i64 0], res13 (R2 := w.heap.size) rfl rfl rfl (G4.c 0 (by simp)) (G4.c 1 (by simp)) (G4.c 2 (by simp)) (G4.c 3 (by simp)) (G4.c 4 (by simp)) (G4.c 5 (by simp)) (G4.c 6 (by simp)) (G4.c 7 (by simp)) (G4.c 8 (by simp)), Below.by_only bz (Nat.le_refl _) o2 (fun k hk => hk), _, rfl, _, _, _, rfl, ExAt.weakS weak _ _ (ExAt.same keep _ _ hx.out)⟩

theorem res10 {tmps : Array Value} {w : World} {R2 : Nat} {v0 v1 v2 v3 v4 v5 a y : Value} (h2 : tmps.getD 2 undef = .pointer (some ⟨R2, 0, none⟩)) (h3 : tmps.getD 3 undef = a) (h4 : tmps.getD 4 undef = y)
    (c0 : w.cell? ⟨R2, 0, none⟩ = some v0) (c1 : w.cell? ⟨R2, 1, none⟩ = some v1) (c2 : w.cell? ⟨R2, 2, none⟩ = some v2) (c3 : w.cell? ⟨R2, 3, none⟩ = some v3) (c4 : w.cell? ⟨R2, 4, none⟩ = some v4) (c5 : w.cell? ⟨R2, 5, none⟩ = some v5) :
    (results Tryz.f10 tmps).run Tryz.prog w = .ok (.tuple #[.agg #[v0, v1, v2, v3, v4, v5], a, y]) w := by
  have h2' : tmps[2]?.getD undef = .pointer (some ⟨R2, 0, none⟩) := by simpa using h2
  have h3' : tmps[3]?.getD undef = a := by simpa using h3
  have h4' : tmps[4]?.getD undef = y := by simpa using h4
  simp [results, Tryz.results10, h2', h3', h4', go_sem, c0, c1, c2, c3, c4, c5]
set_option maxRecDepth 100000 in
set_option maxHeartbeats 4000000 in
theorem parse10 (s : ByteArray) (hs : s.size ≤ maxLen) (w : World) (hT : Tabs w) :
    Calls Tryz.prog 10 #[.string s] w (Gives w (parseL s.data.toList) (.agg #[.slice none 0 0, .slice none 0 0, .bool false, .slice none 0 0, .slice none 0 0, .int .i64 0]) (IsQ w.heap.size)) := by
  have b0 := below_new w (.cells #[.slice none 0 0, .slice none 0 0, .bool false, .slice none 0 0, .slice none 0 0, .int .i64 0] 28)
  have hE := fun (_ : Unit) => read18 s hs (w.alloc (.cells #[.slice none 0 0, .slice none 0 0, .bool false, .slice none 0 0, .slice none 0 0, .int .i64 0] 28)) (hT.below b0)
  have B0 := Blk.new w [.slice none 0 0, .slice none 0 0, .bool false, .slice none 0 0, .slice none 0 0, .int .i64 0] 28
  have hz0 : (w.alloc (.cells #[.slice none 0 0, .slice none 0 0, .bool false, .slice none 0 0, .slice none 0 0, .int .i64 0] 28)).heap.size = w.heap.size + 1 := by simp
  have oz : Only (fun k => w.heap.size ≤ k) w (w.alloc (.cells #[.slice none 0 0, .slice none 0 0, .bool false, .slice none 0 0, .slice none 0 0, .int .i64 0] 28)) := Below.only _ b0
  have bz : Below w.heap.size w w := Below.refl _ _
  cases hr : parseL s.data.toList with
  | bad a1 y1 =>
    rw [hr] at hE
    replace hE : Hid _ := hE
    go_enter Tryz.func10, Tryz.ntmps10
    go_wp2_with ((have hh := hE.out (); go_at_call 18; (with_reducible refine Calls.mono hh ?_); clear hh hE; rintro e w2 ⟨hb, rfl⟩; have B2 := B0.grown hb; have r4 := B2.fr; have q0 : w2.cell? ⟨w.heap.size, 0, none⟩ = some (.slice none 0 0) := (B2.c 0 (by decide)); have q1 : w2.cell? ⟨w.heap.size, 1, none⟩ = some (.slice none 0 0) := (B2.c 1 (by decide)); have q2 : w2.cell? ⟨w.heap.size, 2, none⟩ = some (.bool false) := (B2.c 2 (by decide)); have q3 : w2.cell? ⟨w.heap.size, 3, none⟩ = some (.slice none 0 0) := (B2.c 3 (by decide)); have q4 : w2.cell? ⟨w.heap.size, 4, none⟩ = some (.slice none 0 0) := (B2.c 4 (by decide)); have q5 : w2.cell? ⟨w.heap.size, 5, none⟩ = some (.int .i64 0) := (B2.c 5 (by decide))))
    have o2 := puto18 ((oz.trans (Below.only (fun k => w.heap.size ≤ k) hb))) (R := w.heap.size) (Nat.le_refl _) (.slice none 0 0) (.slice none 0 0) (.bool false) (.slice none 0 0) (.slice none 0 0) (.int .i64 0)
    have G4 := put18 B2 (.slice none 0 0) (.slice none 0 0) (.bool false) (.slice none 0 0) (.slice none 0 0) (.int .i64 0)
    exact ⟨rfl, .tuple #[.agg #[.slice none 0 0, .slice none 0 0, .bool false, .slice none 0 0, .slice none 0 0, .int .i64 0], .int .i64 a1, .int .i64 y1], res10 (R2 := w.heap.size) rfl rfl rfl (G4.c 0 (by decide)) (G4.c 1 (by decide)) (G4.c 2 (by decide)) (G4.c 3 (by decide)) (G4.c 4 (by decide)) (G4.c 5 (by decide)), Below.by_only bz (Nat.le_refl _) o2 (fun k hk => hk), rfl⟩
  | ok x M =>
    rw [hr] at hE
    replace hE : Hid _ := hE
    go_enter Tryz.func10, Tryz.ntmps10
    go_wp2_with ((have hh := hE.out (); go_at_call 18; (with_reducible refine Calls.mono hh ?_); clear hh hE; rintro e w2 ⟨hb, v, rfl, v0, v1, v3, v4, rfl, hx0, hx1, hx3, hx4⟩; obtain ⟨p0, c0, rfl⟩ := hx0.val; obtain ⟨p1, c1, rfl⟩ := hx1.val; obtain ⟨p3, c3, rfl⟩ := hx3.val; obtain ⟨p4, c4, rfl⟩ := hx4.val; have hx := And.intro hx0 (And.intro hx1 (And.intro hx3 hx4)); clear hx0 hx1 hx3 hx4; replace hx : Hid _ := hx; have B2 := B0.grown hb; have r4 := B2.fr; have q0 : w2.cell? ⟨w.heap.size, 0, none⟩ = some (.slice none 0 0) := (B2.c 0 (by decide)); have q1 : w2.cell? ⟨w.heap.size, 1, none⟩ = some (.slice none 0 0) := (B2.c 1 (by decide)); have q2 : w2.cell? ⟨w.heap.size, 2, none⟩ = some (.bool false) := (B2.c 2 (by decide)); have q3 : w2.cell? ⟨w.heap.size, 3, none⟩ = some (.slice none 0 0) := (B2.c 3 (by decide)); have q4 : w2.cell? ⟨w.heap.size, 4, none⟩ = some (.slice none 0 0) := (B2.c 4 (by decide)); have q5 : w2.cell? ⟨w.heap.size, 5, none⟩ = some (.int .i64 0) := (B2.c 5 (by decide))))
    have o1 := puto18 (Only.refl (fun k => k = w.heap.size) w2) (R := w.heap.size) rfl (.slice p0 x.pats.length c0) (.slice p1 x.where'.length c1) (.bool x.dist) (.slice p3 x.items.length c3) (.slice p4 x.keys.length c4) (.int .i64 x.lim)
    have o2 := puto18 ((oz.trans (Below.only (fun k => w.heap.size ≤ k) hb))) (R := w.heap.size) (Nat.le_refl _) (.slice p0 x.pats.length c0) (.slice p1 x.where'.length c1) (.bool x.dist) (.slice p3 x.items.length c3) (.slice p4 x.keys.length c4) (.int .i64 x.lim)
    have G4 := put18 B2 (.slice p0 x.pats.length c0) (.slice p1 x.where'.length c1) (.bool x.dist) (.slice p3 x.items.length c3) (.slice p4 x.keys.length c4) (.int .i64 x.lim)
    have keep : ∀ g, (w.alloc (.cells #[.slice none 0 0, .slice none 0 0, .bool false, .slice none 0 0, .slice none 0 0, .int .i64 0] 28)).heap.size ≤ g → g < w2.heap.size → (((((((w2.setCell ⟨w.heap.size, 0, none⟩ (.slice p0 x.pats.length c0)).setCell ⟨w.heap.size, 1, none⟩ (.slice p1 x.where'.length c1)).setCell ⟨w.heap.size, 2, none⟩ (.bool x.dist)).setCell ⟨w.heap.size, 3, none⟩ (.slice p3 x.items.length c3)).setCell ⟨w.heap.size, 4, none⟩ (.slice p4 x.keys.length c4)).setCell ⟨w.heap.size, 5, none⟩ (.int .i64 x.lim))).heap[g]? = w2.heap[g]? := fun g hg hl => o1.block g hl (fun h => by omega)
    have weak : ∀ g, (w.alloc (.cells #[.slice none 0 0, .slice none 0 0, .bool false, .slice none 0 0, .slice none 0 0, .int .i64 0] 28)).heap.size ≤ g → w.heap.size ≤ g := fun g hg => by omega
    exact ⟨rfl, .tuple #[.agg #[.slice p0 x.pats.length c0, .slice p1 x.where'.length c1, .bool x.dist, .slice p3 x.items.length c3, .slice p4 x.keys.length c4, .int .i64 x.lim], .int .i64 0, .int .i64 0], res10 (R2 := w.heap.size) rfl rfl rfl (G4.c 0 (by simp)) (G4.c 1 (by simp)) (G4.c 2 (by simp)) (G4.c 3 (by simp)) (G4.c 4 (by simp)) (G4.c 5 (by simp)), Below.by_only bz (Nat.le_refl _) o2 (fun k hk => hk), _, rfl, _, _, _, _, rfl, (hx.out.1.keep keep).weak weak, (hx.out.2.1.keep keep).weak weak, (hx.out.2.2.1.keep keep).weak weak, (hx.out.2.2.2.keep keep).weak weak⟩
end Go.Proofs.YtefenbonjepjgaaGreatDoor
namespace Go.Proofs.YtefenbonjepjgaaGreatDoor
open Go.ChangeShapes Go.WideShapes Go.ChangeAt Go.RowKit
set_option linter.unusedSimpArgs false
set_option linter.unusedVariables false

def headQ : Qy := ⟨[⟨[⟨[97], [65]⟩, ⟨[98], []⟩], [⟨[101], [], false, 0, 0, 0⟩]⟩], [], false, [⟨.leaf 3 [97] [120] 0 false 0 [], [110]⟩], [], 3⟩
set_option maxRecDepth 100000 in
theorem head_live : parseL [77, 65, 84, 67, 72, 32, 40, 97, 58, 65, 41, 45, 91, 101, 93, 45, 62, 40, 98, 41, 32, 82, 69, 84, 85, 82, 78, 32, 97, 46, 120, 32, 65, 83, 32, 110, 32, 76, 73, 77, 73, 84, 32, 51] = .ok headQ [] := by kernel_rfl
theorem first_it {S : Nat → Prop} {x : Itm} {v : Value} {w : World} (h : RowS EIt 69 S [x] v w) : ∃ g c, v = .slice (some ⟨g, 0, none⟩) 1 c ∧ w.cell? ⟨g, 9, none⟩ = some (.string (txt x.n)) := by
  obtain ⟨C, h1, h2, h3⟩ := h
  match C, h3 with
  | [c], ⟨⟨sp, sn, sc, e, _⟩, _⟩ =>
    have hh := h1
    obtain ⟨_, ⟨_, e2⟩ | ⟨g, cap, cur, e1, _⟩⟩ := hh
    · cases e2
    · subst e1
      refine ⟨g, cap, rfl, ?_⟩
      rw [h1.cellAt 9 (show 9 < 1 * 10 by decide), e]
      rfl
theorem first_pt {S : Nat → Prop} {x : Pt} {v : Value} {w : World} (h : RowS EPt 61 S [x] v w) : ∃ g c p1 c1, v = .slice (some ⟨g, 0, none⟩) 1 c ∧ w.cell? ⟨g, 0, none⟩ = some (.slice p1 x.nodes.length c1) := by
  obtain ⟨C, h1, h2, h3⟩ := h
  match C, h3 with
  | [c], ⟨⟨p1, c1, p2, c2, e, _⟩, _⟩ =>
    have hh := h1
    obtain ⟨_, ⟨_, e2⟩ | ⟨g, cap, cur, e1, _⟩⟩ := hh
    · cases e2
    · subst e1
      refine ⟨g, cap, p1, c1, rfl, ?_⟩
      rw [h1.cellAt 0 (show 0 < 1 * 2 by decide), e]
      rfl
set_option maxRecDepth 100000 in
set_option maxHeartbeats 2000000 in
theorem head_any (w : World) (hT : Tabs w) : Calls Tryz.prog 9 #[] w fun e w' => e = .returned (.bool true) ∧ Below w.heap.size w w' := by
  have h0 : parseL (⟨#[77, 65, 84, 67, 72, 32, 40, 97, 58, 65, 41, 45, 91, 101, 93, 45, 62, 40, 98, 41, 32, 82, 69, 84, 85, 82, 78, 32, 97, 46, 120, 32, 65, 83, 32, 110, 32, 76, 73, 77, 73, 84, 32, 51]⟩ : ByteArray).data.toList = .ok headQ [] := head_live
  have hP := fun (_ : Unit) => parse10 ⟨#[77, 65, 84, 67, 72, 32, 40, 97, 58, 65, 41, 45, 91, 101, 93, 45, 62, 40, 98, 41, 32, 82, 69, 84, 85, 82, 78, 32, 97, 46, 120, 32, 65, 83, 32, 110, 32, 76, 73, 77, 73, 84, 32, 51]⟩ (by decide) w hT
  rw [h0] at hP
  replace hP : Hid _ := hP
  go_enter Tryz.func9, Tryz.ntmps9
  go_upto_region 2 with ((have hh := hP.out (); go_at_call 10; (with_reducible refine Calls.mono hh ?_); clear hh hP; rintro e w2 ⟨hb, v, rfl, v0, v1, v3, v4, hv, hx0, hx1, hx3, hx4⟩; have hv' : v = .agg #[v0, v1, .bool false, v3, v4, .int .i64 3] := hv; clear hv; subst hv'; obtain ⟨g0, c0, q0, d0, rfl, k0⟩ := first_pt hx0; obtain ⟨g3, c3, rfl, k3⟩ := first_it hx3; obtain ⟨p1, c1, e1⟩ := hx1.val; obtain ⟨p4, c4, e4⟩ := hx4.val; replace e1 : v1 = .slice p1 0 c1 := e1; replace e4 : v4 = .slice p4 0 c4 := e4; subst e1; subst e4; replace k3 : w2.cell? ⟨g3, 9, none⟩ = some (.string ⟨#[110]⟩) := k3; replace k0 : w2.cell? ⟨g0, 0, none⟩ = some (.slice q0 2 d0) := k0))
  clear hx0 hx1 hx3 hx4
  have m0 := cell_keep (.cells #[.slice (some ⟨g0, 0, none⟩) 1 c0, .slice p1 0 c1, .bool false, .slice (some ⟨g3, 0, none⟩) 1 c3, .slice p4 0 c4, .int .i64 3] 28) k0
  have m3 := cell_keep (.cells #[.slice (some ⟨g0, 0, none⟩) 1 c0, .slice p1 0 c1, .bool false, .slice (some ⟨g3, 0, none⟩) 1 c3, .slice p4 0 c4, .int .i64 3] 28) k3
  go_wp2_with fail
  exact ⟨rfl, .bool true, by kernel_rfl, rfl, hb.alloc hb.size _⟩
end Go.Proofs.YtefenbonjepjgaaGreatDoor
namespace Go.Proofs
open Go.Shelf
def Tryz.laysValid_ren : Go.Shelf.Ren := ⟨fun | 196 => 117 | 259 => 130  | n => n, fun | 9 => 9 | 4 => 4 | 3 => 3 | 5 => 5 | 12 => 12 | 119 => 171 | 0 => 0 | 46 => 164 | 139 => 174 | 138 => 173 | 53 => 161  | n => n, fun | 3 => 2 | 4 => 3 | n => n⟩
theorem Tryz.laysValid : Go.Proofs.Lays.n196 Tryz.prog Tryz.laysValid_ren := {
  mixed := by kernel_rfl
  f196 := Tryz.func117.trans (congrArg some (by kernel_rfl))
  f259 := Tryz.func130.trans (congrArg some (by kernel_rfl))
  t0 := Tryz.underlying0
  a0 := Tryz.isAgg0
  z0 := Tryz.sizeOf0
  v0 := Tryz.zeroValue0
  t3 := Tryz.underlying3
  a3 := Tryz.isAgg3
  z3 := Tryz.sizeOf3
  v3 := Tryz.zeroValue3
  t4 := Tryz.underlying4
  a4 := Tryz.isAgg4
  z4 := Tryz.sizeOf4
  v4 := Tryz.zeroValue4
  t5 := Tryz.underlying5
  a5 := Tryz.isAgg5
  z5 := Tryz.sizeOf5
  v5 := Tryz.zeroValue5
  t9 := Tryz.underlying9
  a9 := Tryz.isAgg9
  z9 := Tryz.sizeOf9
  v9 := Tryz.zeroValue9
  t12 := Tryz.underlying12
  a12 := Tryz.isAgg12
  z12 := Tryz.sizeOf12
  v12 := Tryz.zeroValue12
  t46 := Tryz.underlying164
  a46 := Tryz.isAgg164
  z46 := Tryz.sizeOf164
  v46 := Tryz.zeroValue164
  t53 := Tryz.underlying161
  a53 := Tryz.isAgg161
  z53 := Tryz.sizeOf161
  v53 := Tryz.zeroValue161
  t119 := Tryz.underlying171
  a119 := Tryz.isAgg171
  z119 := Tryz.sizeOf171
  t138 := Tryz.underlying173
  a138 := Tryz.isAgg173
  z138 := Tryz.sizeOf173
  v138 := Tryz.zeroValue173
  t139 := Tryz.underlying174
  a139 := Tryz.isAgg174
  z139 := Tryz.sizeOf174
  v139 := Tryz.zeroValue174
  g3 := by kernel_rfl
  g4 := by kernel_rfl }
open Go.RowKit Go.Lib in
theorem Tryz.validString (s : ByteArray) (w : World) (hs : s.size ≤ 9223372036854775807) (hT : Lib.Utf8Tabs (Tryz.laysValid_ren.g 3) (Tryz.laysValid_ren.g 4) w) :
    Calls Tryz.prog 117 #[.string s] w fun e w' => e = .returned (.bool (Lib.validD s.data.toList)) ∧ Go.RowKit.Below w.heap.size w w' := Any.utf8_ValidString Tryz.laysValid s w hs hT
end Go.Proofs
namespace Go.Proofs.YtefenbonjepjgaaGreatDoor
open Go.ChangeShapes Go.WideShapes Go.ChangeAt Go.RowKit Go.Lib
set_option linter.unusedSimpArgs false
set_option linter.unusedVariables false

theorem valid_any (s : ByteArray) (hs : s.size ≤ 9223372036854775807) (w : World) (hT : Tabs w) : Calls Tryz.prog 117 #[.string s] w fun e w' => e = .returned (.bool (Lib.validD s.data.toList)) ∧ Below w.heap.size w w' :=
  Tryz.validString s w hs hT.u8
/-- An array of texts that reads as these holds them. -/
theorem strs_of_arr {H : Type} {enc : TypeId × Value → H} {P : Program} {w : World} {base : Nat} {sp : Nat → Bool} {held : Bool} {fuel : Nat} {t e : TypeId} {n : Nat} {cs : List Value} {zs : List (List UInt8)} {p : List MemPlace}
    (ht : P.underlying t = some (.array n e)) (he : P.underlying e = some .string) (hce : P.cellsOf e = 1) (hct : P.cellsOf t = n)
    (h : DataW.trod enc P w base sp held fuel t cs = some (.agg (zs.map fun z => .lit (.string z)), p)) : cs = zs.map fun z => Value.string (txt z) := by
  cases fuel with
  | zero => simp [DataW.trod] at h
  | succ fuel =>
    simp only [DataW.trod, ht, hce, hct, Nat.mul_one] at h
    split at h
    · rename_i hl
      obtain ⟨xs, hm, hx⟩ := Option.map_eq_some_iff.1 h
      have hxs : xs.map (·.1) = zs.map fun z => (DataW.lit (.string z) : DataW H) := by
        have := congrArg Prod.fst hx
        simpa using this
      have hxl : xs.length = n := by simpa using mapM_length hm
      have hzl : zs.length = n := by
        have := congrArg List.length hxs
        simp at this
        omega
      apply List.ext_getElem?
      intro i
      by_cases hi : i < n
      · obtain ⟨b, hb, hf⟩ := mapM_at hm i i (by simp [hi])
        obtain ⟨z, hc, rfl, _⟩ := DataW.trod_string he hf
        have h1 : cs[i]? = some (.string z) := by
          have := congrArg (·[0]?) hc
          simpa [List.getElem?_take, List.getElem?_drop] using this
        have h2 : (xs.map (·.1))[i]? = some (DataW.lit (.string z.data.toList) : DataW H) := by simp [hb]
        rw [hxs] at h2
        simp only [List.getElem?_map, Option.map_eq_some_iff, DataW.lit.injEq, Lit.string.injEq] at h2
        obtain ⟨z', hz', e2⟩ := h2
        rw [h1, List.getElem?_map, hz', e2]
        simp [txt]
      · rw [List.getElem?_eq_none (by omega), List.getElem?_eq_none (by simp; omega)]
    · cases h
/-- An error that reads as one of its own type is one. -/
theorem iface_of {H : Type} {enc : TypeId × Value → H} {P : Program} {w : World} {base : Nat} {sp : Nat → Bool} {held : Bool} {fuel : Nat} {t : TypeId} {ms : Array (String × TypeId)} {cs : List Value} {n : String} {d : DataW H} {p : List MemPlace}
    (ht : P.underlying t = some (.interface ms)) (h : DataW.trod enc P w base sp held fuel t cs = some (.iface n d, p)) : ∃ u x, cs = [.iface u x] := by
  cases fuel with
  | zero => simp [DataW.trod] at h
  | succ fuel =>
    unfold DataW.trod at h
    rw [ht] at h
    split at h <;> simp_all
theorem block_of_var {P : Program} {w : World} {n : String} {g : Nat} {cs : Array Value} (hg : P.globalNamed n = some g) (h : w.var? P n = some cs) : ∃ t fr, w.heap[g]? = some (.cells cs t fr) := by
  unfold World.var? at h
  rw [hg] at h
  simp only [Option.bind_some] at h
  split at h
  · rename_i cs' t fr hh
    cases h
    exact ⟨t, fr, hh⟩
  · cases h
theorem gk : Tryz.prog.globalNamed "portolan/lex.keys" = some 1 := by kernel_rfl
theorem gs : Tryz.prog.globalNamed "portolan/lex.signs" = some 0 := by kernel_rfl
theorem gr : Tryz.prog.globalNamed "strconv.ErrRange" = some 5 := by kernel_rfl
theorem gd : Tryz.prog.globalNamed "math/bits.deBruijn64tab" = some 9 := by kernel_rfl
theorem tk : (Tryz.prog.globals[1]?).map (·.type) = some 153 := by kernel_rfl
theorem ts : (Tryz.prog.globals[0]?).map (·.type) = some 137 := by kernel_rfl
theorem tr : (Tryz.prog.globals[5]?).map (·.type) = some 129 := by kernel_rfl
theorem t4 : (Tryz.prog.globals[7]?).map (·.type) = some 197 := by kernel_rfl
theorem cells9 : Tryz.prog.cellsOf 9 = 1 := by kernel_rfl
theorem cells153 : Tryz.prog.cellsOf 153 = 23 := by kernel_rfl
theorem cells137 : Tryz.prog.cellsOf 137 = 19 := by kernel_rfl
theorem cells161 : Tryz.prog.cellsOf 161 = 1 := by kernel_rfl
theorem cells197 : Tryz.prog.cellsOf 197 = 20 := by kernel_rfl
def arrS {H : Type} (L : List (List UInt8)) : DataW H := .agg (L.map fun z => .lit (.string z))
theorem laid_eq : Rows.syntaxLevelsRow.laid = [("math/bits.deBruijn32tab", Rows.laid_math_bits_deBruijn32tab), ("math/bits.deBruijn64tab", Rows.laid_math_bits_deBruijn64tab), ("internal/strconv.uint64pow10", Lib.tabData .u64 Lib.pow10Tab), ("unicode/utf8.acceptRanges", acceptData), ("strconv.ErrRange", Rows.laid_strconv_ErrRange), ("strconv.ErrSyntax", Rows.laid_strconv_ErrSyntax), ("portolan/lex.keys", arrS keysL), ("portolan/lex.signs", arrS signsL), ("unicode/utf8.first", firstData)] := by kernel_rfl
theorem tabs_of {W : World} (hL : laidMetH Tryz.prog Rows.syntaxLevelsRow.laid W) : Tabs W := by
  have hr : ∀ n d, (n, d) ∈ Rows.syntaxLevelsRow.laid → VarReads Tryz.prog W n d := fun n d hm => Lib.laidMet.reads hL hm
  rw [laid_eq] at hr
  refine ⟨?_, ?_, ?_, ?_, ?_, ?_⟩
  · exact utf8Tabs_of_readsT (U8Types.of196 Tryz.laysValid) ⟨by kernel_rfl, by kernel_rfl, by kernel_rfl, by kernel_rfl, by kernel_rfl, by kernel_rfl, by kernel_rfl⟩ (hr _ _ (by simp)) (hr _ _ (by simp))
  · obtain ⟨g, t, cs, fuel, p, hg, hty, hvar, hd⟩ := hr "portolan/lex.keys" (arrS keysL) (by simp)
    obtain rfl := Option.some.inj (gk.symm.trans hg)
    obtain rfl := Option.some.inj (tk.symm.trans hty)
    have := strs_of_arr Tryz.underlying153 Tryz.underlying9 cells9 cells153 hd
    obtain ⟨t', fr, hb⟩ := block_of_var gk hvar
    exact ⟨t', fr, by rw [hb]; unfold rowT; rw [← this]⟩
  · obtain ⟨g, t, cs, fuel, p, hg, hty, hvar, hd⟩ := hr "portolan/lex.signs" (arrS signsL) (by simp)
    obtain rfl := Option.some.inj (gs.symm.trans hg)
    obtain rfl := Option.some.inj (ts.symm.trans hty)
    have := strs_of_arr Tryz.underlying137 Tryz.underlying9 cells9 cells137 hd
    obtain ⟨t', fr, hb⟩ := block_of_var gs hvar
    exact ⟨t', fr, by rw [hb]; unfold rowT; rw [← this]⟩
  · obtain ⟨g, t, cs, fuel, p, hg, hty, hvar, hd⟩ := hr "internal/strconv.uint64pow10" (Lib.tabData .u64 Lib.pow10Tab) (by simp)
    obtain rfl := Option.some.inj (pow10_named.symm.trans hg)
    obtain rfl := Option.some.inj (t4.symm.trans hty)
    have := cells_of_tab Tryz.underlying197 Tryz.underlying161 cells161 cells197 hd
    unfold Lib.TabIs
    rw [hvar, ← this]
  · obtain ⟨g, t, cs, fuel, p, hg, hty, hvar, hd⟩ := hr "strconv.ErrRange" Rows.laid_strconv_ErrRange (by simp)
    obtain rfl := Option.some.inj (gr.symm.trans hg)
    obtain rfl := Option.some.inj (tr.symm.trans hty)
    obtain ⟨u, x, hc⟩ := iface_of Tryz.underlying129 hd
    refine ⟨.iface u x, ?_, .inr ⟨u, x, rfl⟩⟩
    have := World.var?_cell gr hvar 0
    rw [this, ← Array.getElem?_toList, hc]
    rfl
  · obtain ⟨g, t, cs, fuel, p, hg, hty, hvar, hd⟩ := hr "math/bits.deBruijn64tab" Rows.laid_math_bits_deBruijn64tab (by simp)
    obtain ⟨t', fr, hb⟩ := block_of_var gd hvar
    have := (Array.getElem?_eq_some_iff.1 hb).1
    omega
theorem own : ownKnob Tryz.prog.godebug = none := by kernel_rfl
theorem laidOut : laidOutB Tryz.prog = true := by kernel_rfl
/-- There is an input that fits, at a world whose shape is shown. -/
theorem witness_row_shaped {H : Type} {enc : TypeId × Value → H} {C : Checked} {os : Os} {f : FuncId} {fn : Func} {s : OpenSpec} {conds : List PathCond} {apart : Bool} {laid : List (String × DataW Unit)} (modest : Bool) (w0 : World) (args : Array Value) (hos : w0.os = os)
    (hsh : (w0.forCall (fun _ _ => 0) ⟨#[], args, []⟩).Shaped C.prog)
    (hok : Input.okWideB C.prog (w0.forCall (fun _ _ => 0) ⟨#[], args, []⟩) f ⟨#[], args, []⟩ = true)
    (hrow : s.preRow enc C.prog fn conds apart laid (w0.forCall (fun _ _ => 0) ⟨#[], args, []⟩).memory args) :
    ∃ (w : World) (tape : Tape) (i : Input), w.os = os ∧ (w.forCall tape i).Shaped C.prog ∧ i.vars = [] ∧ Input.okWide C.prog (w.forCall tape i) .any w.heap.size f i ∧
      s.preRow enc C.prog fn conds apart laid (w.forCall tape i).memory i.args ∧ ({ modest := modest } : Assume).holds C.prog (lone (Frame.enter C.prog f i.args .normal) [] (w.forCall tape i)) :=
  ⟨w0, fun _ _ => 0, ⟨#[], args, []⟩, hos, hsh, (Input.okWide_of_okWideB (base := 0) hok).1, (Input.okWide_of_okWideB hok).2, hrow, by
    simp only [Assume.holds]
    exact ⟨by simp, by simp, fun _ => Modest.zero, by simp, by simp⟩⟩
/-- A world in which the listed variables hold what the program's text lays. -/
noncomputable def laidWorld (os : Os) : World := World.laidAll Tryz.prog os Rows.syntaxLevelsRow.laid
theorem laid_os (os : Os) : (laidWorld os).os = os := World.laidAll_os _ _ _
theorem laid_met (os : Os) (args : Array Value) : laidMet Tryz.prog Rows.syntaxLevelsRow.laid ((laidWorld os).forCall (fun _ _ => 0) ⟨#[], args, []⟩).memory :=
  laidMet_laidAll args (by kernel_rfl) (by kernel_rfl)
end Go.Proofs.YtefenbonjepjgaaGreatDoor
