/-
  Sht: turned for the seats of values.
-/
import Derived.Test.YtokkmjcpjjiaaaaDoorZWra
import Derived.BigQuiet
import Derived.Test.YtokkmjcpjjiaaaaDoorZNma
import Derived.Laws.Rows
import Derived.Ground.NamesProg
import Derived.Shelf.Unicode.ValidAny
import Derived.Test.YtokkmjcpjjiaaaaDoorProg
import Derived.Test.YtokkmjcpjjiaaaaDoorZTok
import Derived.Test.YtokkmjcpjjiaaaaDoorZLxa
import Derived.ScopeJumps
import Derived.Shelf.Strings.BuilderK
namespace Go.Proofs.YtokkmjcpjjiaaaaDoor.S9
open Go.ChangeShapes Go.WideShapes Go.ChangeAt Go.RowKit
open Go.Lib (decodeL encodeRune validD)
set_option linter.unusedSimpArgs false
set_option linter.unusedVariables false
theorem add_string (B b : Nat) (bs : List Value) (s : ByteArray) (w : World) (h : Lib.IsBuilderF 75 5 B b bs w) (hlen : bs.length + s.size ≤ 140737488355328) (hBw : B ≤ w.heap.size) :
    Calls Tryd.prog 68 #[.pointer (some ⟨b, 0, none⟩), .string s] w fun e w' => e = .returned (.tuple #[.int .i64 s.size, .nilIface]) ∧ (Lib.BuilderAtF 75 5 B b (.pointer (some ⟨b, 0, none⟩)) (bs ++ Lib.strCells s) w' ∧ Below B w w' ∧ Lib.OthersKept 5 (some b) w w') :=
  Tryd.Builder_WriteString_k B b bs s w h hlen hBw
/-- A rune as it stands between quotes. -/
def escR (C : Int) : List UInt8 := if C = 39 ∨ C = 92 then 92 :: encodeRune C else if C = 10 then [92, 110] else encodeRune C
theorem esc_step (L : List UInt8) (hne : L ≠ []) (hv : validD L = true) : validD (L.drop (decodeL L).2) = true ∧ escS L = escR ((decodeL L).1 : Int) ++ escS (L.drop (decodeL L).2) := by
  rw [Lib.validD_step L hne] at hv
  split at hv
  · exact absurd hv (by decide)
  rename_i hbad
  refine ⟨hv, ?_⟩
  match L, hne with
  | b :: r, hne =>
    by_cases hb : b.toNat < 128
    · rw [decodeL_low b r hb]
      dsimp only
      rw [List.drop_one, List.tail_cons, escS_cons]
      congr 1
      unfold escR escB
      rw [encode_low b hb]
      have e39 : (b = 39) = ((b.toNat : Int) = 39) := by
        apply propext
        constructor
        · rintro rfl; rfl
        · intro h; apply UInt8.toNat_inj.1; show b.toNat = 39; omega
      have e92 : (b = 92) = ((b.toNat : Int) = 92) := by
        apply propext
        constructor
        · rintro rfl; rfl
        · intro h; apply UInt8.toNat_inj.1; show b.toNat = 92; omega
      have e10 : (b = 10) = ((b.toNat : Int) = 10) := by
        apply propext
        constructor
        · rintro rfl; rfl
        · intro h; apply UInt8.toNat_inj.1; show b.toNat = 10; omega
      simp only [e39, e92, e10]
    · have hd := decodeL_high b r (by omega)
      have he := Lib.encode_decode (b :: r) hne hbad
      generalize b :: r = l at *
      have hh : ∀ c ∈ l.take (decodeL l).2, 128 ≤ c.toNat := by
        rw [← he]
        exact encode_highs _ (by omega)
      have e1 : escS l = escS (l.take (decodeL l).2) ++ escS (l.drop (decodeL l).2) := by rw [← escS_app, List.take_append_drop]
      rw [e1, escS_high _ hh]
      unfold escR
      rw [if_neg (by omega), if_neg (by omega), he]
set_option maxRecDepth 100000 in
set_option maxHeartbeats 2000000 in
theorem showText_any (s : ByteArray) (hs : s.size ≤ 1048576) (hv : validD s.data.toList = true) (w : World) :
    Calls Tryd.prog 44 #[.string s] w fun e w' => e = .returned (.string (txt (quoL s.data.toList))) ∧ Below w.heap.size w w' := by
  have hl : s.data.toList.length = s.size := Array.length_toList
  have hql : (quoL s.data.toList).length ≤ 2 * s.size + 2 := by
    have : ∀ l : List UInt8, (escS l).length ≤ 2 * l.length := by
      intro l
      induction l with
      | nil => exact Nat.le_refl _
      | cons b r ih =>
        have hb : (escB b).length ≤ 2 := by unfold escB; split; simp; split <;> simp
        rw [escS_cons, List.length_append, List.length_cons]
        omega
    have := this s.data.toList
    unfold quoL
    simp only [List.length_cons, List.length_append, List.length_nil]
    omega
  have hfr := Lib.IsBuilderF.of (Lib.fresh_isBuilder 75 5 w)
  have hb0 := below_new w (.cells #[.pointer none, .slice none 0 0] 75)
  have hz0 : (w.alloc (.cells #[.pointer none, .slice none 0 0] 75)).heap.size = w.heap.size + 1 := by simp
  have hQ := fun (_ : Unit) => Tryd.Builder_WriteByte_k w.heap.size w.heap.size [] 39 _ hfr (by simp) (by omega)
  replace hQ : Hid _ := hQ
  clear hfr
  go_enter Tryd.func44, Tryd.ntmps44
  go_wp2_with (have hh := hQ.out (); go_at_call 66; (with_reducible refine Calls.mono hh ?_); clear hh; rintro e W1 ⟨rfl, h1, b1, k1⟩)
  have hbl : Below w.heap.size w W1 := hb0.trans b1
  have hX : w.heap.size < W1.heap.size := Nat.lt_of_lt_of_le (by omega) b1.size
  have hi0 := heap_alloc_new W1 (.stringIter s 0)
  have h2 : Lib.IsBuilderF 75 5 w.heap.size w.heap.size (Lib.byteCells [39]) (W1.alloc (.stringIter s 0)) := (Lib.IsBuilderF.alloc (.inr h1) _)
  have hb2 : Below w.heap.size w (W1.alloc (.stringIter s 0)) := hbl.alloc (by omega) _
  clear hb0 hz0 hQ h1 b1 k1 hbl
  generalize hK : W1.heap.size = K at *
  go_loopw [5] (fun _ wr => ∃ (pos : Nat) (acc : List UInt8), Lib.IsBuilderF 75 5 w.heap.size w.heap.size (Lib.byteCells acc) wr ∧ wr.heap[K]? = some (.stringIter s pos) ∧ Below w.heap.size w wr ∧ acc ++ escS (s.data.toList.drop pos) = 39 :: escS s.data.toList ∧ validD (s.data.toList.drop pos) = true ∧ pos ≤ s.size) (fun _ wr => s.size - wr.iterPos K)
  case atStart => exact ⟨0, [39], h2, hi0, hb2, by rw [List.drop_zero]; rfl, by rw [List.drop_zero]; exact hv, by omega⟩
  case round =>
    obtain ⟨pos, acc, hIb, hit, hB, hT, hvv, hpl⟩ := hrel
    by_cases hp : pos < s.size
    · have hne : s.data.toList.drop pos ≠ [] := fun e => by
        have := congrArg List.length e
        rw [List.length_drop, List.length_nil] at this
        omega
      obtain ⟨hv2, hst⟩ := esc_step _ hne hvv
      rw [Lib.decodeL_drop] at hv2 hst
      rw [List.drop_drop] at hv2 hst
      have hnx := fun ty => Lib.run_next_any_at (P := Tryd.prog) wr K s pos ty hit hp
      have hwd := wid s pos hp
      have hle := decode_le s pos hp
      have hsc := scalar_at s pos
      have hit2 := Lib.iterAt_heap wr K s pos (pos + (Utf8.decode s pos).2) hit
      have hB2 : Below w.heap.size w (wr.iterAt K s (pos + (Utf8.decode s pos).2)) := Lib.below_iterAt hB (by omega) _ _
      have hI2 := hIb.iterAt hit (pos + (Utf8.decode s pos).2)
      have hz2 : w.heap.size ≤ (wr.iterAt K s (pos + (Utf8.decode s pos).2)).heap.size := hB2.size
      have hpos1 : wr.iterPos K = pos := iterPos_of hit
      rw [hst, ← List.append_assoc] at hT
      have hacc : (acc ++ escR ((Utf8.decode s pos).1 : Int)).length ≤ 2 * s.size + 2 := by
        have h4 := congrArg List.length hT
        unfold quoL at hql
        simp only [List.length_cons, List.length_append, List.length_nil] at h4 hql ⊢
        omega
      clear hne hst hvv hIb hit hB
      generalize wr.iterAt K s (pos + (Utf8.decode s pos).2) = W2 at *
      generalize (Utf8.decode s pos).1 = C at *
      generalize (Utf8.decode s pos).2 = wd at *
      have hC : 0 ≤ (C : Int) ∧ (C : Int) ≤ 1114111 := by omega
      clear hsc
      generalize (C : Int) = C at *
      have hwl : acc.length ≤ 2 * s.size + 2 := by rw [List.length_append] at hacc; omega
      have hWb := fun (_ : Unit) => Tryd.Builder_WriteByte_k w.heap.size w.heap.size (Lib.byteCells acc) 92 W2 hI2 (by rw [Lib.byteCells_length]; omega) hz2
      have hWc := fun (_ : Unit) => Tryd.Builder_WriteRune_k w.heap.size w.heap.size (Lib.byteCells acc) C (by omega) (by omega) W2 hI2 (by rw [Lib.byteCells_length]; omega) hz2
      have hWs := fun (_ : Unit) => add_string w.heap.size w.heap.size (Lib.byteCells acc) ⟨#[92, 110]⟩ W2 hI2 (by rw [Lib.byteCells_length]; show _ + 2 ≤ _; omega) hz2
      have hRu := fun (W3 : World) (h : Lib.BuilderAtF 75 5 w.heap.size w.heap.size (.pointer (some ⟨w.heap.size, 0, none⟩)) (Lib.byteCells acc ++ [.int .u8 92]) W3) (b : Below w.heap.size W2 W3) => Tryd.Builder_WriteRune_k w.heap.size w.heap.size (Lib.byteCells acc ++ [.int .u8 92]) C (by omega) (by omega) W3 (.inr h) (by simp only [List.length_append, Lib.byteCells_length, List.length_cons, List.length_nil]; omega) (Nat.le_trans hz2 b.size)
      have hKb : K ≠ w.heap.size := by omega
      have hiter : ∀ W3, Lib.OthersKept 5 (some w.heap.size) W2 W3 → W3.heap[K]? = some (.stringIter s (pos + wd)) := fun W3 h => h K _ hit2 (fun e => hKb (Option.some.inj e)) (fun c fz e => by cases e)
      clear hI2 hit2
      replace hWb : Hid _ := hWb
      replace hWc : Hid _ := hWc
      replace hWs : Hid _ := hWs
      replace hRu : Hid _ := hRu
      replace hB2 : Hid _ := hB2
      replace hpos1 : Hid _ := hpos1
      replace hT : Hid _ := hT
      replace hv2 : Hid _ := hv2
      replace hiter : Hid _ := hiter
      by_cases hq : C = 39 ∨ C = 92
      · have eR : escR C = 92 :: encodeRune C := if_pos hq
        rw [eR] at hT hacc
        rcases hq with hq | hq
        · have hq1 : ((39 : Int) == 39) = true := rfl
          subst hq
          go_wp2_with (first
          | (have hh := hRu.out _ h3 b3; go_at_call 67; (with_reducible refine Calls.mono hh ?_); clear hh; rintro e W4 ⟨rfl, h4, b4, k4⟩)
          | (have hh := hWb.out (); go_at_call 66; (with_reducible refine Calls.mono hh ?_); clear hh; rintro e W3 ⟨rfl, h3, b3, k3⟩)
          | (have hh := hWs.out (); go_at_call 68; (with_reducible refine Calls.mono hh ?_); clear hh; rintro e W3 ⟨rfl, h3, b3, k3⟩)
          | (have hh := hWc.out (); go_at_call 67; (with_reducible refine Calls.mono hh ?_); clear hh; rintro e W3 ⟨rfl, h3, b3, k3⟩))
          all_goals go_roundw
          case rel => exact ⟨pos + wd, acc ++ (92 :: encodeRune 39), by (have e4 : Lib.byteCells (acc ++ (92 :: encodeRune 39)) = Lib.byteCells acc ++ [.int .u8 92] ++ Lib.runeCells 39 := by rw [← Lib.byteCells_encodeRune, Lib.byteCells_append, List.append_assoc]; rfl); rw [e4]; exact .inr h4, hiter.out _ (k3.trans k4), (hB2.out.trans b3).trans b4, hT.out, hv2.out, hle⟩
          case measure => first
            | (rw [iterPos_of (hiter.out _ (k3.trans k4)), hpos1.out]; omega)
            | (rw [iterPos_of (hiter.out _ k3), hpos1.out]; omega)
        · subst hq
          have hq1 : ((92 : Int) == 39) = false := rfl
          go_wp2_with (first
          | (have hh := hRu.out _ h3 b3; go_at_call 67; (with_reducible refine Calls.mono hh ?_); clear hh; rintro e W4 ⟨rfl, h4, b4, k4⟩)
          | (have hh := hWb.out (); go_at_call 66; (with_reducible refine Calls.mono hh ?_); clear hh; rintro e W3 ⟨rfl, h3, b3, k3⟩)
          | (have hh := hWs.out (); go_at_call 68; (with_reducible refine Calls.mono hh ?_); clear hh; rintro e W3 ⟨rfl, h3, b3, k3⟩)
          | (have hh := hWc.out (); go_at_call 67; (with_reducible refine Calls.mono hh ?_); clear hh; rintro e W3 ⟨rfl, h3, b3, k3⟩))
          all_goals go_roundw
          case rel => exact ⟨pos + wd, acc ++ (92 :: encodeRune 92), by (have e4 : Lib.byteCells (acc ++ (92 :: encodeRune 92)) = Lib.byteCells acc ++ [.int .u8 92] ++ Lib.runeCells 92 := by rw [← Lib.byteCells_encodeRune, Lib.byteCells_append, List.append_assoc]; rfl); rw [e4]; exact .inr h4, hiter.out _ (k3.trans k4), (hB2.out.trans b3).trans b4, hT.out, hv2.out, hle⟩
          case measure => first
            | (rw [iterPos_of (hiter.out _ (k3.trans k4)), hpos1.out]; omega)
            | (rw [iterPos_of (hiter.out _ k3), hpos1.out]; omega)
      · have hq1 : (C == 39) = false := by simp; omega
        have hq2 : (C == 92) = false := by simp; omega
        have hq3 : ¬ C = 39 := fun e => hq (.inl e)
        have hq4 : ¬ C = 92 := fun e => hq (.inr e)
        by_cases hn : C = 10
        · have eR : escR C = [92, 110] := by unfold escR; rw [if_neg hq, if_pos hn]
          rw [eR] at hT hacc
          subst hn
          go_wp2_with (first
          | (have hh := hRu.out _ h3 b3; go_at_call 67; (with_reducible refine Calls.mono hh ?_); clear hh; rintro e W4 ⟨rfl, h4, b4, k4⟩)
          | (have hh := hWb.out (); go_at_call 66; (with_reducible refine Calls.mono hh ?_); clear hh; rintro e W3 ⟨rfl, h3, b3, k3⟩)
          | (have hh := hWs.out (); go_at_call 68; (with_reducible refine Calls.mono hh ?_); clear hh; rintro e W3 ⟨rfl, h3, b3, k3⟩)
          | (have hh := hWc.out (); go_at_call 67; (with_reducible refine Calls.mono hh ?_); clear hh; rintro e W3 ⟨rfl, h3, b3, k3⟩))
          all_goals go_roundw
          case rel => exact ⟨pos + wd, acc ++ [92, 110], by rw [Lib.byteCells_append]; exact .inr (by simpa [Lib.runeCells, Lib.byteCells, Lib.strCells] using h3), hiter.out _ k3, hB2.out.trans b3, hT.out, hv2.out, hle⟩
          case measure => first
            | (rw [iterPos_of (hiter.out _ (k3.trans k4)), hpos1.out]; omega)
            | (rw [iterPos_of (hiter.out _ k3), hpos1.out]; omega)
        · have eR : escR C = encodeRune C := by unfold escR; rw [if_neg hq, if_neg hn]
          rw [eR] at hT hacc
          have hn1 : (C == 10) = false := by simpa using hn
          go_wp2_with (first
          | (have hh := hRu.out _ h3 b3; go_at_call 67; (with_reducible refine Calls.mono hh ?_); clear hh; rintro e W4 ⟨rfl, h4, b4, k4⟩)
          | (have hh := hWb.out (); go_at_call 66; (with_reducible refine Calls.mono hh ?_); clear hh; rintro e W3 ⟨rfl, h3, b3, k3⟩)
          | (have hh := hWs.out (); go_at_call 68; (with_reducible refine Calls.mono hh ?_); clear hh; rintro e W3 ⟨rfl, h3, b3, k3⟩)
          | (have hh := hWc.out (); go_at_call 67; (with_reducible refine Calls.mono hh ?_); clear hh; rintro e W3 ⟨rfl, h3, b3, k3⟩))
          all_goals go_roundw
          case rel => exact ⟨pos + wd, acc ++ encodeRune C, by rw [Lib.byteCells_append, Lib.byteCells_encodeRune]; exact .inr h3, hiter.out _ k3, hB2.out.trans b3, hT.out, hv2.out, hle⟩
          case measure => first
            | (rw [iterPos_of (hiter.out _ (k3.trans k4)), hpos1.out]; omega)
            | (rw [iterPos_of (hiter.out _ k3), hpos1.out]; omega)
    · have hnx := fun ty => Lib.run_next_end_at (P := Tryd.prog) wr K s pos ty hit hp
      have hnil : s.data.toList.drop pos = [] := List.drop_eq_nil_of_le (by omega)
      rw [hnil] at hT
      have hac : acc = 39 :: escS s.data.toList := by
        have e0 : escS [] = [] := rfl
        rw [e0, List.append_nil] at hT
        exact hT
      have hz2 : w.heap.size ≤ wr.heap.size := hB.size
      have hal : acc.length ≤ 2 * s.size + 2 := by
        rw [hac]
        unfold quoL at hql
        simp only [List.length_cons, List.length_append, List.length_nil] at hql ⊢
        omega
      have hWb := fun (_ : Unit) => Tryd.Builder_WriteByte_k w.heap.size w.heap.size (Lib.byteCells acc) 39 wr hIb (by rw [Lib.byteCells_length]; omega) hz2
      have hSt := fun (W3 : World) (h : Lib.BuilderAtF 75 5 w.heap.size w.heap.size (.pointer (some ⟨w.heap.size, 0, none⟩)) (Lib.byteCells acc ++ [.int .u8 39]) W3) (b : Below w.heap.size wr W3) => Tryd.Builder_String_any_k w.heap.size w.heap.size (acc ++ [39]) W3 (.inr (by rw [Lib.byteCells_append]; exact h)) (Nat.le_trans hz2 b.size)
      have hq : (⟨(acc ++ [39]).toArray⟩ : ByteArray) = txt (quoL s.data.toList) := by rw [hac]; rfl
      rw [hq] at hSt
      clear hq hac hT hvv hnil hIb hit hal hz2 hql
      generalize hXX : txt (quoL s.data.toList) = X at hSt
      replace hXX : Hid _ := hXX
      replace hWb : Hid _ := hWb
      replace hSt : Hid _ := hSt
      replace hB : Hid _ := hB
      go_wp2_with (first
        | (have hh := hSt.out _ h3 b3; go_at_call 69; (with_reducible refine Calls.mono hh ?_); clear hh; rintro e W4 ⟨rfl, h4, b4, k4⟩)
        | (have hh := hWb.out (); go_at_call 66; (with_reducible refine Calls.mono hh ?_); clear hh; rintro e W3 ⟨rfl, h3, b3, k3⟩))
      go_returns
      exact ⟨by rw [hXX.out]; rfl, (hB.out.trans b3).trans b4⟩
end Go.Proofs.YtokkmjcpjjiaaaaDoor.S9
