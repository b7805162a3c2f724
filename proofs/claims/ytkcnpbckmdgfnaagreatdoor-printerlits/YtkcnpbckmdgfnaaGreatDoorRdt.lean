/-
  A text between quotes, as the program reads it.
-/
import Derived.Test.YtkcnpbckmdgfnaaGreatDoorSgn
import Derived.Test.YtkcnpbckmdgfnaaGreatDoorLxa
import Derived.ScopeJumps
import Derived.Shelf.Strings.BuilderK
namespace Go.Proofs.YtkcnpbckmdgfnaaGreatDoor
open Go.RowKit
set_option linter.unusedSimpArgs false
set_option linter.unusedVariables false

set_option maxRecDepth 100000 in
set_option maxHeartbeats 4000000 in
theorem frame65 (t : Array Value) (hs : t.size = 65) : ∃ u : Nat → Value, t = #[u 0, u 1, u 2, u 3, u 4, u 5, u 6, u 7, u 8, u 9, u 10, u 11, u 12, u 13, u 14, u 15, u 16, u 17, u 18, u 19, u 20, u 21, u 22, u 23, u 24, u 25, u 26, u 27, u 28, u 29, u 30, u 31, u 32, u 33, u 34, u 35, u 36, u 37, u 38, u 39, u 40, u 41, u 42, u 43, u 44, u 45, u 46, u 47, u 48, u 49, u 50, u 51, u 52, u 53, u 54, u 55, u 56, u 57, u 58, u 59, u 60, u 61, u 62, u 63, u 64] := by
  refine ⟨fun i => t.getD i undef, ?_⟩
  apply Array.ext
  · rw [hs]; rfl
  · intro i h1 h2
    have e : t[i] = t.getD i undef := by simp [Array.getD, h1]
    rw [e]
    have hi : i < 65 := by omega
    clear e h1 hs
    match i, hi with
    | 0, _ => rfl
    | 1, _ => rfl
    | 2, _ => rfl
    | 3, _ => rfl
    | 4, _ => rfl
    | 5, _ => rfl
    | 6, _ => rfl
    | 7, _ => rfl
    | 8, _ => rfl
    | 9, _ => rfl
    | 10, _ => rfl
    | 11, _ => rfl
    | 12, _ => rfl
    | 13, _ => rfl
    | 14, _ => rfl
    | 15, _ => rfl
    | 16, _ => rfl
    | 17, _ => rfl
    | 18, _ => rfl
    | 19, _ => rfl
    | 20, _ => rfl
    | 21, _ => rfl
    | 22, _ => rfl
    | 23, _ => rfl
    | 24, _ => rfl
    | 25, _ => rfl
    | 26, _ => rfl
    | 27, _ => rfl
    | 28, _ => rfl
    | 29, _ => rfl
    | 30, _ => rfl
    | 31, _ => rfl
    | 32, _ => rfl
    | 33, _ => rfl
    | 34, _ => rfl
    | 35, _ => rfl
    | 36, _ => rfl
    | 37, _ => rfl
    | 38, _ => rfl
    | 39, _ => rfl
    | 40, _ => rfl
    | 41, _ => rfl
    | 42, _ => rfl
    | 43, _ => rfl
    | 44, _ => rfl
    | 45, _ => rfl
    | 46, _ => rfl
    | 47, _ => rfl
    | 48, _ => rfl
    | 49, _ => rfl
    | 50, _ => rfl
    | 51, _ => rfl
    | 52, _ => rfl
    | 53, _ => rfl
    | 54, _ => rfl
    | 55, _ => rfl
    | 56, _ => rfl
    | 57, _ => rfl
    | 58, _ => rfl
    | 59, _ => rfl
    | 60, _ => rfl
    | 61, _ => rfl
    | 62, _ => rfl
    | 63, _ => rfl
    | 64, _ => rfl
    | i + 65, hi => exact absurd hi (by omega)

theorem isWritten_any (s : ByteArray) (w : World) : Calls Tryz.prog 138 #[.string s] w fun e w' => e = .returned (.bool (([239, 191, 189] : List UInt8).isPrefixOf s.data.toList)) ∧ w' = w := by
  have hP := fun w => prefix_any s ⟨#[239, 191, 189]⟩ w
  rw [show (⟨#[239, 191, 189]⟩ : ByteArray).data.toList = [239, 191, 189] from rfl] at hP
  replace hP : Hid _ := hP
  go_enter Tryz.func138, Tryz.ntmps138
  go_wp2_with (go_at_call 145; refine Calls.mono (hP.out _) ?_; rintro e w1 ⟨rfl, rfl⟩)
  go_returns
  exact ⟨rfl, rfl⟩
theorem isWritten_is (s : ByteArray) (w : World) : Calls Tryz.prog 138 #[.string s] w fun e w' => e = .returned (.bool (([239, 191, 189] : List UInt8).isPrefixOf s.data.toList)) ∧ w = w' :=
  (isWritten_any s w).mono fun e w' ⟨h1, h2⟩ => ⟨h1, h2.symm⟩
theorem BoxAt.belowB {B : Nat} {w w' : World} {x : Nat} {k : Int} {t : ByteArray} {n a : Int} (h : BoxAt w x k t n a) (hb : Below B w w') (hx : x < B) : BoxAt w' x k t n a :=
  ⟨(hb.cell (p := ⟨x, 0, none⟩) hx).trans h.c0, (hb.cell (p := ⟨x, 1, none⟩) hx).trans h.c1, (hb.cell (p := ⟨x, 2, none⟩) hx).trans h.c2, (hb.cell (p := ⟨x, 3, none⟩) hx).trans h.c3, fun j => (hb.frozen (p := ⟨x, j, none⟩) hx).trans (h.fr j)⟩
theorem extract_drop (s : ByteArray) (n : Nat) : (s.extract n s.size).data.toList = s.data.toList.drop n := by
  rw [Lib.extract_data]
  have : s.data.toList.length = s.size := Array.length_toList
  rw [List.take_of_length_le (by rw [List.length_drop]; omega)]
/-- Behind a backslash, or not. -/
def txL (e : Bool) (l : List UInt8) : Option (List UInt8 × Nat) := if e then escL l else textL l
/-- What is held where there is none. -/
def JT (l : List UInt8) (w : World) (a' : Act) (w' : World) : Prop := ∃ t : Array Value, a' = { tmps := t, defers := [] } ∧ t.size = 65 ∧ t.getD 2 undef = .pointer (some ⟨w.heap.size, 0, none⟩) ∧ textL l = none ∧ BoxAt w' w.heap.size 0 ⟨#[]⟩ 0 0 ∧ Below w.heap.size w w'

set_option maxRecDepth 100000 in
set_option maxHeartbeats 8000000 in
theorem readText_any (s : ByteArray) (hs : s.size ≤ 4096) (hne : 1 ≤ s.size) (w : World) :
    Calls Tryz.prog 115 #[.string s] w fun e w' => e = .returned (resV (textW s.data.toList)) ∧ Below w.heap.size w w' := by
  have hI := extract_drop s 1
  have hz1 : (s.extract 1 s.size).size ≤ 4096 := by rw [ByteArray.size_extract]; omega
  have hTl : s.data.toList.tail = (s.extract 1 s.size).data.toList := by rw [hI, List.drop_one]
  unfold textW
  rw [hTl]
  clear hI hTl
  generalize hX : s.extract 1 s.size = I at *
  have hN : resV (match (none : Option (List UInt8 × Nat)) with | none => bad 73 | some x => ⟨4, x.1, 0, x.2 + 2, 0⟩) = .tuple #[tokV 0 ⟨#[]⟩ 0 0, .int .i64 0, .int .i64 73] := rfl
  have hbx := BoxAt.new w 0 ⟨#[]⟩ 0 0 rfl
  have hbel := below_new w (.cells #[.int .i64 0, .string ⟨#[]⟩, .int .i64 0, .int .i64 0] 147)
  go_enter Tryz.func115, Tryz.ntmps115
  go_wp2_with fail
  refine wp_scope_jumps 0 (JT I.data.toList w) (fun _ _ => 0) rfl ?_ ?_
  case refine_2 =>
    rintro a' w' ⟨t, rfl, hz, g2, hnone, hbx', bel⟩
    obtain ⟨u, rfl⟩ := frame65 t hz
    replace g2 : u 2 = .pointer (some ⟨w.heap.size, 0, none⟩) := g2
    rw [g2]
    clear g2 hz
    obtain ⟨c0, c1, c2, c3, fr⟩ := hbx'
    have f0 := fr 0
    have f1 := fr 1
    have f2 := fr 2
    have f3 := fr 3
    go_wp2_with fail
    simp only [Exit.jump]
    change bodyPost Tryz.prog Tryz.f115 _ _ _ _
    refine bodyPost_ret (results_tok rfl _ rfl rfl rfl ((BoxAt.mk c0 c1 c2 c3 fr).put _ _ _ _)) rfl ?_
    rw [hnone, hN]
    exact ⟨rfl, by go_grown⟩
  go_wp2_with fail
  have z1 : (w.alloc (.cells #[.int .i64 0, .string ⟨#[]⟩, .int .i64 0, .int .i64 0] 147)).heap.size = w.heap.size + 1 := by simp
  have hfr := (Lib.IsBuilderF.of (Lib.fresh_isBuilder 56 5 (w.alloc (.cells #[.int .i64 0, .string ⟨#[]⟩, .int .i64 0, .int .i64 0] 147)))).alloc (.stringIter I 0)
  have hb0 : Below (w.heap.size + 1) (w.alloc (.cells #[.int .i64 0, .string ⟨#[]⟩, .int .i64 0, .int .i64 0] 147)) (((w.alloc (.cells #[.int .i64 0, .string ⟨#[]⟩, .int .i64 0, .int .i64 0] 147)).alloc (.cells #[.pointer none, .slice none 0 0] 56)).alloc (.stringIter I 0)) := by
    rw [← z1]
    exact below_on (below_new _ _) (below_new _ _)
  have hi0 : (((w.alloc (.cells #[.int .i64 0, .string ⟨#[]⟩, .int .i64 0, .int .i64 0] 147)).alloc (.cells #[.pointer none, .slice none 0 0] 56)).alloc (.stringIter I 0)).heap[w.heap.size + 1 + 1]? = some (.stringIter I 0) := by
    have := heap_alloc_new ((w.alloc (.cells #[.int .i64 0, .string ⟨#[]⟩, .int .i64 0, .int .i64 0] 147)).alloc (.cells #[.pointer none, .slice none 0 0] 56)) (.stringIter I 0)
    simpa using this
  rw [z1] at hfr
  generalize w.alloc (.cells #[.int .i64 0, .string ⟨#[]⟩, .int .i64 0, .int .i64 0] 147) = W1 at *
  go_loopw [7] (fun e wr => ∃ (E : Bool) (pos : Nat) (acc : List UInt8), e = .bool E ∧ Lib.IsBuilderF 56 5 (w.heap.size + 1) (w.heap.size + 1) (Lib.byteCells acc) wr ∧ wr.heap[w.heap.size + 1 + 1]? = some (.stringIter I pos) ∧ Below (w.heap.size + 1) W1 wr ∧ textL I.data.toList = pre acc pos (txL E (I.data.toList.drop pos)) ∧ pos ≤ I.size ∧ acc.length ≤ 4 * pos) (fun _ wr => I.size - wr.iterPos (w.heap.size + 1 + 1))
  case atStart => exact ⟨false, 0, [], rfl, hfr, hi0, hb0, by rw [List.drop_zero]; exact (pre_nil _).symm, by omega, by simp⟩
  case round =>
    obtain ⟨E, pos, acc, rfl, hIb, hit, hB, hT, hpl, hal⟩ := hrel
    have hnelem : pos < I.size → I.data.toList.drop pos ≠ [] := fun hp e => by
      have := congrArg List.length e
      rw [List.length_drop, List.length_nil] at this
      have hl : I.data.toList.length = I.size := Array.length_toList
      omega
    by_cases hp : pos < I.size
    case neg =>
      have hnx := fun ty => Lib.run_next_end_at (P := Tryz.prog) wr (w.heap.size + 1 + 1) I pos ty hit hp
      have hnil : I.data.toList.drop pos = [] := by
        have hl : I.data.toList.length = I.size := Array.length_toList
        exact List.drop_eq_nil_of_le (by omega)
      have hnone : textL I.data.toList = none := by
        rw [hT, hnil]
        cases E <;> rfl
      obtain ⟨c0, c1, c2, c3, fr⟩ := hbx.belowB hB (by omega)
      have f0 := fr 0
      have f1 := fr 1
      have f2 := fr 2
      have f3 := fr 3
      replace hnone : Hid _ := hnone
      replace hT : Hid _ := hT
      have hWB : Below w.heap.size w wr := hbel.trans (hB.mono (by omega))
      go_wp2_with fail
      refine wp_label ?_
      go_wp2_with fail
      try simp only [Exit.jump]
      change bodyPost Tryz.prog Tryz.f115 _ _ _ _
      refine bodyPost_ret (results_tok rfl _ rfl rfl rfl ((BoxAt.mk c0 c1 c2 c3 fr).put _ _ _ _)) rfl ?_
      rw [hnone.out, hN]
      exact ⟨rfl, by go_grown⟩
    have hne' := hnelem hp
    have hP0 := tx_plain I.data.toList (I.data.toList.drop pos) acc pos hne'
    have hP1 := tx_esc I.data.toList (I.data.toList.drop pos) acc pos hne'
    have hBad := fun h => escL_bad (I.data.toList.drop pos) hne' h
    have hWr := written (I.data.toList.drop pos) hne'
    have hnx := fun ty => Lib.run_next_any_at (P := Tryz.prog) wr (w.heap.size + 1 + 1) I pos ty hit hp
    have hwd := wid I pos hp
    have hle := decode_le I pos hp
    have hsc := scalar_at I pos
    rw [Lib.decodeL_drop] at hP0 hP1 hBad hWr
    rw [List.drop_drop] at hP0 hP1
    have hit2 := Lib.iterAt_heap wr (w.heap.size + 1 + 1) I pos (pos + (Utf8.decode I pos).2) hit
    have hB2 : Below (w.heap.size + 1) W1 (wr.iterAt (w.heap.size + 1 + 1) I (pos + (Utf8.decode I pos).2)) := Lib.below_iterAt hB (by omega) _ _
    have hI2 := hIb.iterAt hit (pos + (Utf8.decode I pos).2)
    have hz2 : w.heap.size + 1 ≤ (wr.iterAt (w.heap.size + 1 + 1) I (pos + (Utf8.decode I pos).2)).heap.size := by
      have := (Array.getElem?_eq_some_iff.1 hit2).1
      omega
    have hpos1 : wr.iterPos (w.heap.size + 1 + 1) = pos := iterPos_of hit
    generalize wr.iterAt (w.heap.size + 1 + 1) I (pos + (Utf8.decode I pos).2) = W2 at *
    have hIW := fun w' => isWritten_is (I.extract pos I.size) w'
    rw [extract_drop] at hIW
    generalize (Utf8.decode I pos).1 = C at *
    generalize (Utf8.decode I pos).2 = wd at *
    generalize ([239, 191, 189] : List UInt8).isPrefixOf (I.data.toList.drop pos) = q at *
    have hel := encode_len C
    have hWb := Tryz.Builder_WriteByte_k (w.heap.size + 1) (w.heap.size + 1) (Lib.byteCells acc) 10 W2 hI2 (by rw [Lib.byteCells_length]; omega) hz2
    have hWc := Tryz.Builder_WriteRune_k (w.heap.size + 1) (w.heap.size + 1) (Lib.byteCells acc) C (by omega) (by omega) W2 hI2 (by rw [Lib.byteCells_length]; omega) hz2
    have hWs := Tryz.Builder_String_any_k (w.heap.size + 1) (w.heap.size + 1) acc W2 hI2 hz2
    clear hnelem hne' hIb hit hB hfr hb0 hi0 hz2
    replace hWb : Hid _ := hWb
    replace hWc : Hid _ := hWc
    replace hWs : Hid _ := hWs
    replace hIW : Hid _ := hIW
    replace hit2 : Hid _ := hit2
    replace hB2 : Hid _ := hB2
    replace hbx : Hid _ := hbx
    replace hbel : Hid _ := hbel
    replace hpos1 : Hid _ := hpos1
    cases E
    · obtain ⟨p1, p2, p3, p4⟩ := hP0 hT
      clear hP0 hP1 hBad hT
      by_cases h39 : C = 39
      · have hfin := p2 h39
        subst h39
        clear p1 p2 p3 p4 hWr
        replace hfin : Hid _ := hfin
        go_wp2_with (first
                  | (go_at_call 138; refine Calls.mono (hIW.out _) ?_; rintro e w3 ⟨rfl, rfl⟩)
                  | (go_at_call 139; refine Calls.mono hWb.out ?_; rintro e W3 ⟨rfl, h3, b3, k3⟩)
                  | (go_at_call 34; refine Calls.mono hWs.out ?_; rintro e W3 ⟨rfl, _, b3, _⟩; have hB3 := hB2.out.trans b3; obtain ⟨c0, c1, c2, c3, fr⟩ := hbx.out.belowB hB3 (by omega); have f0 := fr 0; have f1 := fr 1; have f2 := fr 2; have f3 := fr 3)
                  | (go_at_call 140; refine Calls.mono hWc.out ?_; rintro e W3 ⟨rfl, h3, b3, k3⟩))
        try simp only [Exit.jump]
        change bodyPost Tryz.prog Tryz.f115 _ _ _ _
        have hWB : Below w.heap.size w W3 := hbel.out.trans (hB3.mono (by omega))
        refine bodyPost_ret (results_tok rfl _ rfl rfl rfl ((BoxAt.mk c0 c1 c2 c3 fr).put _ _ _ _)) rfl ?_
        rw [hfin.out]
        exact ⟨rfl, by go_grown⟩
      by_cases h92 : C = 92
      · have hT' := p3 h92
        subst h92
        clear p1 p2 p3 p4 hWr
        replace hT' : Hid _ := hT'
        go_wp2_with (first
                  | (go_at_call 138; refine Calls.mono (hIW.out _) ?_; rintro e w3 ⟨rfl, rfl⟩)
                  | (go_at_call 139; refine Calls.mono hWb.out ?_; rintro e W3 ⟨rfl, h3, b3, k3⟩)
                  | (go_at_call 34; refine Calls.mono hWs.out ?_; rintro e W3 ⟨rfl, _, b3, _⟩; have hB3 := hB2.out.trans b3; obtain ⟨c0, c1, c2, c3, fr⟩ := hbx.out.belowB hB3 (by omega); have f0 := fr 0; have f1 := fr 1; have f2 := fr 2; have f3 := fr 3)
                  | (go_at_call 140; refine Calls.mono hWc.out ?_; rintro e W3 ⟨rfl, h3, b3, k3⟩))
        go_roundw
        case rel => exact ⟨true, pos + wd, acc, rfl, hI2, hit2.out, hB2.out, hT'.out, hle, by omega⟩
        case measure =>
          rw [iterPos_of hit2.out, hpos1.out]; omega
      by_cases hE : C = 65533
      · subst hE
        by_cases hb : wd = 1
        · have hnone := p1 ⟨rfl, hb⟩
          have hq : q = false := by
            cases q with
            | false => rfl
            | true => exact absurd ⟨rfl, hb⟩ ((hWr rfl).1 rfl)
          subst hq
          clear p1 p2 p3 p4 hWr
          replace hnone : Hid _ := hnone
          go_wp2_with (first
                    | (go_at_call 138; refine Calls.mono (hIW.out _) ?_; rintro e w3 ⟨rfl, rfl⟩)
                    | (go_at_call 139; refine Calls.mono hWb.out ?_; rintro e W3 ⟨rfl, h3, b3, k3⟩)
                    | (go_at_call 34; refine Calls.mono hWs.out ?_; rintro e W3 ⟨rfl, _, b3, _⟩; have hB3 := hB2.out.trans b3; obtain ⟨c0, c1, c2, c3, fr⟩ := hbx.out.belowB hB3 (by omega); have f0 := fr 0; have f1 := fr 1; have f2 := fr 2; have f3 := fr 3)
                    | (go_at_call 140; refine Calls.mono hWc.out ?_; rintro e W3 ⟨rfl, h3, b3, k3⟩))
          go_step3
          exact ⟨rfl, _, rfl, rfl, rfl, hnone.out, hbx.out.belowB hB2.out (by omega), hbel.out.trans (hB2.out.mono (by omega))⟩
        · have hT' := p4 (fun e => hb e.2) h39 h92
          have hq : q = true := (hWr rfl).2 (fun e => hb e.2)
          subst hq
          clear p1 p2 p3 p4 hWr
          replace hT' : Hid _ := hT'
          go_wp2_with (first
                    | (go_at_call 138; refine Calls.mono (hIW.out _) ?_; rintro e w3 ⟨rfl, rfl⟩)
                    | (go_at_call 139; refine Calls.mono hWb.out ?_; rintro e W3 ⟨rfl, h3, b3, k3⟩)
                    | (go_at_call 34; refine Calls.mono hWs.out ?_; rintro e W3 ⟨rfl, _, b3, _⟩; have hB3 := hB2.out.trans b3; obtain ⟨c0, c1, c2, c3, fr⟩ := hbx.out.belowB hB3 (by omega); have f0 := fr 0; have f1 := fr 1; have f2 := fr 2; have f3 := fr 3)
                    | (go_at_call 140; refine Calls.mono hWc.out ?_; rintro e W3 ⟨rfl, h3, b3, k3⟩))
          go_roundw
          case rel =>
            have hit3 := k3.iter hit2.out (by omega)
            exact ⟨false, pos + wd, acc ++ Lib.encodeRune ((65533 : Nat) : Int), rfl, by rw [Lib.byteCells_append, Lib.byteCells_encodeRune]; exact Or.inr h3, hit3, hB2.out.trans b3, hT'.out, hle, by rw [List.length_append]; omega⟩
          case measure =>
            rw [iterPos_of (k3.iter hit2.out (by omega)), hpos1.out]; omega
      · have hT' := p4 (fun e => hE e.1) h39 h92
        clear p1 p2 p3 p4 hWr
        replace hT' : Hid _ := hT'
        go_wp2_with (first
                  | (go_at_call 138; refine Calls.mono (hIW.out _) ?_; rintro e w3 ⟨rfl, rfl⟩)
                  | (go_at_call 139; refine Calls.mono hWb.out ?_; rintro e W3 ⟨rfl, h3, b3, k3⟩)
                  | (go_at_call 34; refine Calls.mono hWs.out ?_; rintro e W3 ⟨rfl, _, b3, _⟩; have hB3 := hB2.out.trans b3; obtain ⟨c0, c1, c2, c3, fr⟩ := hbx.out.belowB hB3 (by omega); have f0 := fr 0; have f1 := fr 1; have f2 := fr 2; have f3 := fr 3)
                  | (go_at_call 140; refine Calls.mono hWc.out ?_; rintro e W3 ⟨rfl, h3, b3, k3⟩))
        go_roundw
        case rel =>
          have hit3 := k3.iter hit2.out (by omega)
          exact ⟨false, pos + wd, acc ++ Lib.encodeRune C, rfl, by rw [Lib.byteCells_append, Lib.byteCells_encodeRune]; exact Or.inr h3, hit3, hB2.out.trans b3, hT'.out, hle, by rw [List.length_append]; omega⟩
        case measure =>
          rw [iterPos_of (k3.iter hit2.out (by omega)), hpos1.out]; omega
    · have hT0 := hT
      obtain ⟨p1, p2, p3⟩ := hP1 hT
      have p0 : C = 65533 ∧ wd = 1 → textL I.data.toList = none := fun h => by
        rw [hT0]
        show pre acc pos (escL _) = none
        rw [hBad h]
        rfl
      clear hP0 hP1 hBad hT hT0
      by_cases h39 : C = 39
      · have hT' := p2 (.inl h39)
        subst h39
        clear p0 p1 p2 p3 hWr
        replace hT' : Hid _ := hT'
        go_wp2_with (first
                  | (go_at_call 138; refine Calls.mono (hIW.out _) ?_; rintro e w3 ⟨rfl, rfl⟩)
                  | (go_at_call 139; refine Calls.mono hWb.out ?_; rintro e W3 ⟨rfl, h3, b3, k3⟩)
                  | (go_at_call 34; refine Calls.mono hWs.out ?_; rintro e W3 ⟨rfl, _, b3, _⟩; have hB3 := hB2.out.trans b3; obtain ⟨c0, c1, c2, c3, fr⟩ := hbx.out.belowB hB3 (by omega); have f0 := fr 0; have f1 := fr 1; have f2 := fr 2; have f3 := fr 3)
                  | (go_at_call 140; refine Calls.mono hWc.out ?_; rintro e W3 ⟨rfl, h3, b3, k3⟩))
        go_roundw
        case rel =>
          have hit3 := k3.iter hit2.out (by omega)
          exact ⟨false, pos + wd, acc ++ Lib.encodeRune ((39 : Nat) : Int), rfl, by rw [Lib.byteCells_append, Lib.byteCells_encodeRune]; exact Or.inr h3, hit3, hB2.out.trans b3, hT'.out, hle, by rw [List.length_append]; omega⟩
        case measure =>
          rw [iterPos_of (k3.iter hit2.out (by omega)), hpos1.out]; omega
      by_cases h92 : C = 92
      · have hT' := p2 (.inr h92)
        subst h92
        clear p0 p1 p2 p3 hWr
        replace hT' : Hid _ := hT'
        go_wp2_with (first
                  | (go_at_call 138; refine Calls.mono (hIW.out _) ?_; rintro e w3 ⟨rfl, rfl⟩)
                  | (go_at_call 139; refine Calls.mono hWb.out ?_; rintro e W3 ⟨rfl, h3, b3, k3⟩)
                  | (go_at_call 34; refine Calls.mono hWs.out ?_; rintro e W3 ⟨rfl, _, b3, _⟩; have hB3 := hB2.out.trans b3; obtain ⟨c0, c1, c2, c3, fr⟩ := hbx.out.belowB hB3 (by omega); have f0 := fr 0; have f1 := fr 1; have f2 := fr 2; have f3 := fr 3)
                  | (go_at_call 140; refine Calls.mono hWc.out ?_; rintro e W3 ⟨rfl, h3, b3, k3⟩))
        go_roundw
        case rel =>
          have hit3 := k3.iter hit2.out (by omega)
          exact ⟨false, pos + wd, acc ++ Lib.encodeRune ((92 : Nat) : Int), rfl, by rw [Lib.byteCells_append, Lib.byteCells_encodeRune]; exact Or.inr h3, hit3, hB2.out.trans b3, hT'.out, hle, by rw [List.length_append]; omega⟩
        case measure =>
          rw [iterPos_of (k3.iter hit2.out (by omega)), hpos1.out]; omega
      by_cases h110 : C = 110
      · have hT' := p1 h110
        subst h110
        clear p0 p1 p2 p3 hWr
        replace hT' : Hid _ := hT'
        go_wp2_with (first
                  | (go_at_call 138; refine Calls.mono (hIW.out _) ?_; rintro e w3 ⟨rfl, rfl⟩)
                  | (go_at_call 139; refine Calls.mono hWb.out ?_; rintro e W3 ⟨rfl, h3, b3, k3⟩)
                  | (go_at_call 34; refine Calls.mono hWs.out ?_; rintro e W3 ⟨rfl, _, b3, _⟩; have hB3 := hB2.out.trans b3; obtain ⟨c0, c1, c2, c3, fr⟩ := hbx.out.belowB hB3 (by omega); have f0 := fr 0; have f1 := fr 1; have f2 := fr 2; have f3 := fr 3)
                  | (go_at_call 140; refine Calls.mono hWc.out ?_; rintro e W3 ⟨rfl, h3, b3, k3⟩))
        go_roundw
        case rel =>
          have hit3 := k3.iter hit2.out (by omega)
          exact ⟨false, pos + wd, acc ++ [10], rfl, by rw [Lib.byteCells_append]; exact Or.inr h3, hit3, hB2.out.trans b3, hT'.out, hle, by rw [List.length_append]; show acc.length + 1 ≤ _; omega⟩
        case measure =>
          rw [iterPos_of (k3.iter hit2.out (by omega)), hpos1.out]; omega
      have hnone := p3 h110 h39 h92
      clear p0 p1 p2 p3 hWr
      by_cases hE : C = 65533
      · subst hE
        cases q
        all_goals
          replace hnone : Hid _ := hnone
          go_wp2_with (first
                    | (go_at_call 138; refine Calls.mono (hIW.out _) ?_; rintro e w3 ⟨rfl, rfl⟩)
                    | (go_at_call 139; refine Calls.mono hWb.out ?_; rintro e W3 ⟨rfl, h3, b3, k3⟩)
                    | (go_at_call 34; refine Calls.mono hWs.out ?_; rintro e W3 ⟨rfl, _, b3, _⟩; have hB3 := hB2.out.trans b3; obtain ⟨c0, c1, c2, c3, fr⟩ := hbx.out.belowB hB3 (by omega); have f0 := fr 0; have f1 := fr 1; have f2 := fr 2; have f3 := fr 3)
                    | (go_at_call 140; refine Calls.mono hWc.out ?_; rintro e W3 ⟨rfl, h3, b3, k3⟩))
          go_step3
          exact ⟨rfl, _, rfl, rfl, rfl, hnone.out, hbx.out.belowB hB2.out (by omega), hbel.out.trans (hB2.out.mono (by omega))⟩
      · have n1 : ((C : Int) != 39) = true := by rw [bne_iff_ne]; omega
        have n2 : ((C : Int) != 92) = true := by rw [bne_iff_ne]; omega
        replace hnone : Hid _ := hnone
        go_wp2_with (first
                  | (go_at_call 138; refine Calls.mono (hIW.out _) ?_; rintro e w3 ⟨rfl, rfl⟩)
                  | (go_at_call 139; refine Calls.mono hWb.out ?_; rintro e W3 ⟨rfl, h3, b3, k3⟩)
                  | (go_at_call 34; refine Calls.mono hWs.out ?_; rintro e W3 ⟨rfl, _, b3, _⟩; have hB3 := hB2.out.trans b3; obtain ⟨c0, c1, c2, c3, fr⟩ := hbx.out.belowB hB3 (by omega); have f0 := fr 0; have f1 := fr 1; have f2 := fr 2; have f3 := fr 3)
                  | (go_at_call 140; refine Calls.mono hWc.out ?_; rintro e W3 ⟨rfl, h3, b3, k3⟩))
        go_step3
        exact ⟨rfl, _, rfl, rfl, rfl, hnone.out, hbx.out.belowB hB2.out (by omega), hbel.out.trans (hB2.out.mono (by omega))⟩
end Go.Proofs.YtkcnpbckmdgfnaaGreatDoor
