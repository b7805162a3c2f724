/-
  ColvecDicts: what it keeps in memory: a column of texts, and the texts that it wants.
-/
import Derived.Test.YtomhgaihmdjdbaaDoorApa
import Derived.Test.YtomhgaihmdjdbaaDoorOfa
import Derived.Test.YtomhgaihmdjdbaaDoorDcx
namespace Go.Proofs.YtomhgaihmdjdbaaDoor
open Go.RowKit
set_option linter.unusedSimpArgs false
set_option linter.unusedVariables false

/-- A column of texts behind some, and a row of just its texts, apart from it. -/
structure DS (w wr : World) (x : Nat) (C : Col) (i : Nat) (ta : Option Addr) (tc : Nat) : Prop where
  bel : Below w.heap.size w wr
  col : ColAt wr w.heap.size x C
  k : C.k = 3
  hp : C.Hp = []
  m : C.M.length ≤ i
  l : C.L = []
  xx : C.X.length ≤ i
  own : wr.ownsRow w.heap.size 9 1 (.slice ta C.X.length tc) C.X.length (C.X.map .string)
  ap : ∀ b, (Value.slice ta C.X.length tc).ownBlock = some b → ¬ Foot x C b
theorem DS.below {w wr w' : World} {x : Nat} {C : Col} {i : Nat} {ta : Option Addr} {tc : Nat} (h : DS w wr x C i ta tc) (hb : Below wr.heap.size wr w') : DS w w' x C i ta tc :=
  { h with
    bel := h.bel.trans (hb.mono h.bel.size)
    col := h.col.below hb
    own := own_only h.own (Below.only (fun _ => False) hb) (fun _ _ h => h) }
/-- Behind one text more, that was taken in or (q) refused; the row is as it was. -/
structure MD (w wr : World) (x : Nat) (X : List ByteArray) (C : Col) (i : Nat) (ta : Option Addr) (tc : Nat) (q : Bool) (s : ByteArray) : Prop where
  bel : Below w.heap.size w wr
  col : ColAt wr w.heap.size x C
  k : C.k = 3
  hp : C.Hp = []
  m : C.M.length ≤ i + 1
  l : C.L = []
  xl : X.length ≤ i
  xx : C.X = if q = true then X else txtOn X s
  own : wr.ownsRow w.heap.size 9 1 (.slice ta X.length tc) X.length (X.map .string)
  ap : ∀ b, (Value.slice ta X.length tc).ownBlock = some b → ¬ Foot x C b
theorem MD.below {w wr w' : World} {x : Nat} {X : List ByteArray} {C : Col} {i : Nat} {ta : Option Addr} {tc : Nat} {q : Bool} {s : ByteArray} (h : MD w wr x X C i ta tc q s) (hb : Below wr.heap.size wr w') : MD w w' x X C i ta tc q s :=
  { h with
    bel := h.bel.trans (hb.mono h.bel.size)
    col := h.col.below hb
    own := own_only h.own (Below.only (fun _ => False) hb) (fun _ _ h => h) }
/-- It is known: nothing is put behind the row. -/
theorem MD.same {w wr : World} {x : Nat} {X : List ByteArray} {C : Col} {i : Nat} {ta : Option Addr} {tc : Nat} {q : Bool} {s : ByteArray} (h : MD w wr x X C i ta tc q s) (hq : q = true ∨ s ∈ X) : C.X = X ∧ DS w wr x C (i + 1) ta tc := by
  have e : C.X = X := by
    rw [h.xx]
    split
    · rfl
    · rcases hq with hq | hq
      · exact absurd hq ‹_›
      · exact (txt_has hq).2
  refine ⟨e, ⟨h.bel, h.col, h.k, h.hp, h.m, h.l, by rw [e]; have := h.xl; omega, by rw [e]; exact h.own, by rw [e]; exact h.ap⟩⟩
/-- It is new: it is put behind the row. -/
theorem MD.more {w wr w' : World} {x : Nat} {X : List ByteArray} {C : Col} {i : Nat} {ta : Option Addr} {tc : Nat} {s : ByteArray} (h : MD w wr x X C i ta tc false s) (hs : s ∉ X) {g cap : Nat} {o : Obj} (hg : (wr.alloc o).grownBy w' (Value.slice ta X.length tc).ownBlock)
    (hown : w'.ownsRow w.heap.size 9 1 (.slice (some ⟨g, 0, none⟩) (X.length + 1) cap) (X.length + 1) (X.map .string ++ [.string s])) (hat : (Value.slice ta X.length tc).ownBlock = some g ∨ g = wr.heap.size + 1) : C.X.length = X.length + 1 ∧ DS w w' x C (i + 1) (some ⟨g, 0, none⟩) cap := by
  have e : C.X = X ++ [s] := by rw [h.xx]; simp [(txt_new hs).2]
  have el : C.X.length = X.length + 1 := by rw [e]; simp
  have hO : Only (fun k => (Value.slice ta X.length tc).ownBlock = some k) wr w' := (Only.refl _ wr).alloc o |>.grown hg (fun k hk _ => hk)
  refine ⟨el, ⟨?_, h.col.only hO (fun b hf e => h.ap b e hf), h.k, h.hp, h.m, h.l, by rw [el]; have := h.xl; omega, ?_, ?_⟩⟩
  · exact h.bel.trans (hO.below h.bel.size (fun k hk => (h.own.lt k hk).1))
  · rw [el, e]; simpa using hown
  · intro b hb hf
    rw [el] at hb
    have hgb : g = b := by simpa [Value.ownBlock] using hb
    subst hgb
    obtain ⟨j, hj⟩ := hf
    have hlt := h.col.lt hj
    rcases hat with ha | ha
    · exact h.ap g ha ⟨j, hj⟩
    · omega
theorem DS.append {w wr : World} {x : Nat} {C : Col} {i n : Nat} {ta : Option Addr} {tc : Nat} (h : DS w wr x C i ta tc) (s : ByteArray) (hs : s.size ≤ maxLen) (hi : i < n) (hn : n * 16 ≤ 140737488351232) (hT : Tabs wr) :
    Calls Tryd.prog 16 #[.pointer (some ⟨x, 0, none⟩), .agg #[.int .i64 3, .bool false, .int .i64 0, .string s, .slice none 0 0]] wr fun e w' => ∃ (z : Int) (q : Bool) (C' : Col), e = .returned (.int .i64 z) ∧ (z != 0) = q ∧ MD w w' x C.X C' i ta tc q s := by
  have hA := Append_any w.heap.size x C ⟨3, false, 0, s, none, 0, 0, []⟩ wr h.col h.bel.size rfl (.inl rfl) hs hT (fun _ _ e _ => by cases e) (by have := h.m; omega) (by rw [h.l]; simp) (fun _ => by rw [h.hp]; simp) (by have := h.xx; omega)
  refine Calls.mono hA fun e w' ⟨h1, h2⟩ => ?_
  cases hk : takesV C.k ⟨3, false, 0, s, none, 0, 0, []⟩ with
  | true =>
    obtain ⟨rfl, C', hC', ⟨b1, b2, b3, b4, b5⟩, hO, hK⟩ := h1 hk
    refine ⟨0, false, C', rfl, rfl, ⟨?_, hC', b1.trans h.k, by rw [b5, h.hp]; rfl, by rw [b3]; simp; exact h.m, by rw [b2, h.l]; simp, h.xx, ?_, ?_, ?_⟩⟩
    · exact h.bel.trans (hO.below h.bel.size (fun k ⟨j, hj⟩ => h.col.lo j k hj))
    · rw [b4]; unfold textsV; rw [if_pos ⟨by rw [h.k]; decide, rfl⟩]; simp
    · exact own_only h.own hO h.ap
    · intro b hb hf
      rcases hK b hf with h' | h'
      · exact h.ap b hb h'
      · have := (h.own.lt b hb).2; omega
  | false =>
    obtain ⟨rfl, hb⟩ := h2 hk
    have d := h.below hb
    exact ⟨31, true, C, rfl, rfl, ⟨d.bel, d.col, d.k, d.hp, by have := d.m; omega, d.l, d.xx, by simp, d.own, d.ap⟩⟩

/-- What is a value has a short path. -/
theorem right_short (v : VV) (hz : v.z.length = v.l) (h : rgtV v = true) : v.l ≤ 9 ∧ (v.k ≠ 6 → v.l = 0) := by
  unfold rgtV rgtB othB fitB trailB at h
  simp only [Bool.and_eq_true, Bool.or_eq_true, decide_eq_true_eq] at h
  obtain ⟨⟨_, h4⟩, h5⟩ := h
  refine ⟨?_, fun h6 => h4.resolve_left h6⟩
  rcases h4 with h6 | h6
  · rw [h6] at h5
    simp at h5
    omega
  · omega
/-- A column of numbers has no texts, no heap. -/
theorem fold_int (D : Nat → VV) : ∀ n, (∀ i, i < n → (D i).z.length = (D i).l) → allT 2 D n = true → (foldC 2 D n).Hp = [] ∧ (foldC 2 D n).X = []
  | 0, _, _ => ⟨rfl, rfl⟩
  | n + 1, hz, h => by
    rw [allT, Bool.and_eq_true] at h
    obtain ⟨i1, i2⟩ := fold_int D n (fun i hi => hz i (by omega)) h.1
    have ht := h.2
    rw [takesV, Bool.and_eq_true, Bool.or_eq_true, decide_eq_true_eq, decide_eq_true_eq] at ht
    have hl := (right_short (D n) (hz n (by omega)) ht.1).2 (by rcases ht.2 with e | e <;> rw [e] <;> decide)
    have hzn : (D n).z = [] := List.eq_nil_of_length_eq_zero (by rw [hz n (by omega)]; exact hl)
    refine ⟨?_, ?_⟩
    · show (foldC 2 D n).Hp ++ (D n).z = []
      rw [i1, hzn]; rfl
    · show textsC (foldC 2 D n) (D n) = []
      unfold textsC
      rw [if_neg (fun h3 => by rcases ht.2 with e | e <;> rw [e] at h3 <;> exact absurd h3.2 (by decide)), i2]
end Go.Proofs.YtomhgaihmdjdbaaDoor
