/-
  The reader in memory: the words that are left, where the text ends, how deep it is.
-/
import Derived.Test.YtkcnpbckmdgfnaaGreatDoorSya
import Derived.Test.YtkcnpbckmdgfnaaGreatDoorKea
import Derived.Recover
import Derived.Defers
import Derived.WalkLawsBesides
namespace Go.Proofs.YtkcnpbckmdgfnaaGreatDoor
open Go.ChangeShapes Go.WideShapes Go.ChangeAt Go.RowKit
set_option linter.unusedSimpArgs false
set_option linter.unusedVariables false

/-- What may have turned: blocks of which S tells, and new ones. -/
structure Only (S : Nat → Prop) (w w' : World) : Prop where
  os : w'.os = w.os
  tape : w'.tape = w.tape
  output : w'.output = w.output
  size : w.heap.size ≤ w'.heap.size
  block : ∀ k, k < w.heap.size → ¬ S k → w'.heap[k]? = w.heap[k]?
theorem Only.refl (S : Nat → Prop) (w : World) : Only S w w := ⟨rfl, rfl, rfl, Nat.le_refl _, fun _ _ _ => rfl⟩
theorem Only.below {S : Nat → Prop} {w w' : World} (h : Only S w w') {B : Nat} (hB : B ≤ w.heap.size) (hS : ∀ k, S k → B ≤ k) : Below B w w' :=
  ⟨h.os, h.tape, h.output, h.size, fun k hk => h.block k (by omega) (fun s => by have := hS k s; omega)⟩
theorem Below.only {w w' : World} (S : Nat → Prop) (h : Below w.heap.size w w') : Only S w w' := ⟨h.os, h.tape, h.output, h.size, fun k hk _ => h.block k hk⟩
theorem Only.trans {S : Nat → Prop} {a b c : World} (h : Only S a b) (k : Only S b c) : Only S a c :=
  ⟨k.os.trans h.os, k.tape.trans h.tape, k.output.trans h.output, Nat.le_trans h.size k.size, fun i hi hn => (k.block i (Nat.lt_of_lt_of_le hi h.size) hn).trans (h.block i hi hn)⟩
theorem Only.then {S : Nat → Prop} {a b c : World} (h : Only S a b) (k : Below b.heap.size b c) : Only S a c := h.trans (Below.only S k)
theorem Only.cell {S : Nat → Prop} {w w' : World} (h : Only S w w') {g j : Nat} (hg : g < w.heap.size) (hS : ¬ S g) : w'.cell? ⟨g, j, none⟩ = w.cell? ⟨g, j, none⟩ := by
  simp only [World.cell?, h.block g hg hS]
theorem Only.frozen {S : Nat → Prop} {w w' : World} (h : Only S w w') {g j : Nat} (hg : g < w.heap.size) (hS : ¬ S g) : w'.frozen? ⟨g, j, none⟩ = w.frozen? ⟨g, j, none⟩ := by
  simp only [World.frozen?, h.block g hg hS]
theorem only_set (w : World) (B j : Nat) (v : Value) : Only (· = B) w (w.setCell ⟨B, j, none⟩ v) :=
  ⟨rfl, rfl, rfl, by simp [World.setCell], fun k hk hn => Below.heap_setCell _ _ _ _ hn⟩
/-- A cell of a block that is neither new nor in S. -/
theorem Only.setNew {S : Nat → Prop} {a w : World} (h : Only S a w) {p : Addr} (hp : a.heap.size ≤ p.block) (u : Value) : Only S a (w.setCell p u) :=
  ⟨h.os, h.tape, h.output, by simp [World.setCell]; exact h.size, fun k hk hn => (Below.heap_setCell _ _ _ _ (by omega)).trans (h.block k hk hn)⟩

/-- Words in memory, from an address on, in no cell of block B. -/
def WsAt (w : World) (B : Nat) (p : Option Addr) (L : List Tk) : Prop := L = [] ∨ ∃ g o, p = some ⟨g, o, none⟩ ∧ g < B ∧ ∀ i, i < L.length →
    w.cell? ⟨g, o + i * 4, none⟩ = some (.int .i64 (L.getD i default).k) ∧ w.cell? ⟨g, o + i * 4 + 1, none⟩ = some (.string (txt (L.getD i default).t)) ∧
    w.cell? ⟨g, o + i * 4 + 2, none⟩ = some (.int .i64 (L.getD i default).n) ∧ w.cell? ⟨g, o + i * 4 + 3, none⟩ = some (.int .i64 (L.getD i default).at')
theorem WsAt.only {w w' : World} {B : Nat} {p : Option Addr} {L : List Tk} (h : WsAt w B p L) (hb : Only (· = B) w w') : WsAt w' B p L := by
  rcases h with h | ⟨g, o, e, hg, h⟩
  · exact .inl h
  · refine .inr ⟨g, o, e, hg, fun i hi => ?_⟩
    obtain ⟨c0, c1, c2, c3⟩ := h i hi
    have hl := World.block_lt_of_cell? w _ c0
    have hg' : ¬ g = B := by omega
    exact ⟨(hb.cell hl hg').trans c0, (hb.cell hl hg').trans c1, (hb.cell hl hg').trans c2, (hb.cell hl hg').trans c3⟩
theorem WsAt.tail {w : World} {B : Nat} {p : Option Addr} {t : Tk} {L : List Tk} (h : WsAt w B p (t :: L)) (g o : Nat) (e : p = some ⟨g, o, none⟩) {q : Option Addr} (hq : L ≠ [] → q = some ⟨g, o + 4, none⟩) : WsAt w B q L := by
  rcases h with h | ⟨g', o', e', hg, h⟩
  · cases h
  rw [e] at e'
  cases e'
  by_cases hL : L = []
  · exact .inl hL
  refine .inr ⟨g, o + 4, hq hL, hg, fun i hi => ?_⟩
  obtain ⟨c0, c1, c2, c3⟩ := h (i + 1) (by simp; omega)
  have e1 : (t :: L).getD (i + 1) default = L.getD i default := rfl
  have e2 : o + (i + 1) * 4 = o + 4 + i * 4 := by omega
  rw [e1, e2] at c0 c1 c2 c3
  exact ⟨c0, c1, c2, c3⟩
structure Rd (w : World) (B E d : Nat) (L : List Tk) : Prop where
  c0 : ∃ p cap, w.cell? ⟨B, 0, none⟩ = some (.slice p L.length cap) ∧ L.length ≤ cap ∧ WsAt w B p L
  c1 : w.cell? ⟨B, 1, none⟩ = some (.int .i64 E)
  c2 : w.cell? ⟨B, 2, none⟩ = some (.int .i64 d)
  fr : ∀ j, w.frozen? ⟨B, j, none⟩ = false
  few : L.length ≤ 4096
  deep : d ≤ 50
theorem Rd.lt {w : World} {B E d : Nat} {L : List Tk} (h : Rd w B E d L) : B < w.heap.size := World.block_lt_of_cell? w _ h.c1
theorem Rd.below {w w' : World} {B E d : Nat} {L : List Tk} (h : Rd w B E d L) (hb : Below w.heap.size w w') : Rd w' B E d L := by
  obtain ⟨p, cap, h0, h1, h2⟩ := h.c0
  exact ⟨⟨p, cap, (hb.cell (p := ⟨B, 0, none⟩) h.lt).trans h0, h1, h2.only (Below.only _ hb)⟩, (hb.cell (p := ⟨B, 1, none⟩) h.lt).trans h.c1, (hb.cell (p := ⟨B, 2, none⟩) h.lt).trans h.c2,
    fun j => (hb.frozen (p := ⟨B, j, none⟩) h.lt).trans (h.fr j), h.few, h.deep⟩
/-- What turns behind the reader's block leaves it. -/
theorem Rd.turn {w w' : World} {B E d R : Nat} {L : List Tk} (h : Rd w B E d L) (ho : Only (· = R) w w') (hR : B < R) : Rd w' B E d L := by
  obtain ⟨p, cap, h0, h1, h2⟩ := h.c0
  have hne : ¬ B = R := by omega
  refine ⟨⟨p, cap, (ho.cell h.lt hne).trans h0, h1, ?_⟩, (ho.cell h.lt hne).trans h.c1, (ho.cell h.lt hne).trans h.c2, fun j => (ho.frozen h.lt hne).trans (h.fr j), h.few, h.deep⟩
  rcases h2 with h | ⟨g, o, e, hg, h⟩
  · exact .inl h
  · refine .inr ⟨g, o, e, hg, fun i hi => ?_⟩
    obtain ⟨c0, c1, c2, c3⟩ := h i hi
    have hl := World.block_lt_of_cell? w _ c0
    have hg' : ¬ g = R := by omega
    exact ⟨(ho.cell hl hg').trans c0, (ho.cell hl hg').trans c1, (ho.cell hl hg').trans c2, (ho.cell hl hg').trans c3⟩
theorem Rd.few' {w : World} {B E d : Nat} {t : Tk} {L : List Tk} (h : Rd w B E d (t :: L)) : L.length + 1 ≤ 4096 := by have := h.few; simp at this; omega
theorem only_new {S : Nat → Prop} {a w : World} (h : Only S a w) (o : Obj) : Only S a (w.alloc o) := h.then (below_new w o)
/-- The pointer to the reader. -/
abbrev rp (B : Nat) : Value := .pointer (some ⟨B, 0, none⟩)
def tkV (t : Tk) : Value := tokV t.k (txt t.t) t.n t.at'
theorem set_same {w : World} {a : Addr} {u v : Value} (h : w.cell? a = some u) : (w.setCell a v).cell? a = some v := World.cell?_setCell_same _ _ _ h
theorem set_at (w : World) (B : Nat) {i j : Nat} (v : Value) (h : i ≠ j) : (w.setCell ⟨B, i, none⟩ v).cell? ⟨B, j, none⟩ = w.cell? ⟨B, j, none⟩ :=
  World.cell?_setCell_other _ _ _ _ (fun e => h (congrArg Addr.off e))
theorem set_fr (w : World) (a : Addr) (v : Value) (b : Addr) : (w.setCell a v).frozen? b = w.frozen? b := World.frozen?_setCell _ _ _ _
/-- The next word. -/
theorem next_any {w : World} {B E d : Nat} {L : List Tk} (h : Rd w B E d L) :
    Calls Tryz.prog 91 #[rp B] w fun e w' => e = .returned (tkV (headL E L)) ∧ Below w.heap.size w w' := by
  obtain ⟨p, cap, c0, hc, hws⟩ := h.c0
  have c1 := h.c1
  have hf := h.few
  have hlt := h.lt
  clear h
  cases L with
  | nil =>
    go_enter Tryz.func91, Tryz.ntmps91
    go_wp2_with fail
    go_returns
    exact ⟨rfl, below_new _ _⟩
  | cons t L =>
    rcases hws with h | ⟨g, o, rfl, hg, hws⟩
    · cases h
    obtain ⟨x0, x1, x2, x3⟩ := hws 0 (by simp)
    clear hws
    rw [List.length_cons] at c0 hf hc
    have e0 : (t :: L).getD 0 default = t := rfl
    rw [e0] at x0 x1 x2 x3
    rw [Nat.zero_mul, Nat.add_zero] at x0 x1 x2 x3
    show Calls Tryz.prog 91 #[rp B] w fun e w' => e = .returned (tkV t) ∧ Below w.heap.size w w'
    obtain ⟨k, tx, n, a⟩ := t
    dsimp only at x0 x1 x2 x3
    unfold tkV tokV
    have hn : ((L.length : Int) + 1 == 0) = false := by rw [beq_eq_false_iff_ne]; omega
    have hgl : g < w.heap.size := World.block_lt_of_cell? w _ x0
    go_enter Tryz.func91, Tryz.ntmps91
    go_wp2_with fail
    go_returns
    exact ⟨rfl, below_new _ _⟩
/-- The next word is taken. -/
theorem take_any {w : World} {B E d : Nat} {t : Tk} {L : List Tk} (h : Rd w B E d (t :: L)) :
    Calls Tryz.prog 89 #[rp B] w fun e w' => e = .returned (.tuple #[]) ∧ Only (· = B) w w' ∧ Rd w' B E d L := by
  obtain ⟨p, cap, c0, hc, hws⟩ := h.c0
  have c1 := h.c1
  have c2 := h.c2
  have hf := h.few
  have hlt := h.lt
  have hfr := h.fr
  have hd := h.deep
  rw [List.length_cons] at c0 hf hc
  obtain ⟨g, o, rfl⟩ : ∃ g o, p = some ⟨g, o, none⟩ := by
    rcases hws with h | ⟨g, o, e, _⟩
    · cases h
    · exact ⟨g, o, e⟩
  have hT : ∀ q, (L ≠ [] → q = some ⟨g, o + 4, none⟩) → WsAt (w.setCell ⟨B, 0, none⟩ (.slice q L.length (cap - 1))) B q L := fun q hq =>
    (hws.tail g o rfl hq).only (only_set w B 0 _)
  clear h hws
  replace hT : Hid _ := hT
  have f0 := hfr 0
  go_enter Tryz.func89, Tryz.ntmps89
  go_wp2_with fail
  all_goals
    refine bodyPost_end (results_none rfl _ _ _) rfl ⟨rfl, only_set _ _ _ _, ?_⟩
  · subst_vars
    exact ⟨⟨_, _, set_same c0, by omega, hT.out _ (fun h => absurd (List.length_pos_iff.2 h) (by omega))⟩, (set_at _ _ _ (by decide)).trans c1, (set_at _ _ _ (by decide)).trans c2, fun j => (set_fr _ _ _ _).trans (hfr j), by omega, hd⟩
  · exact ⟨⟨_, _, set_same c0, by omega, hT.out _ (fun _ => rfl)⟩, (set_at _ _ _ (by decide)).trans c1, (set_at _ _ _ (by decide)).trans c2, fun j => (set_fr _ _ _ _).trans (hfr j), by omega, hd⟩
/-- Texts in a row. -/
def SsAt (w : World) (p : Option Addr) (S : List (List UInt8)) : Prop := S = [] ∨ ∃ g o, p = some ⟨g, o, none⟩ ∧ ∀ i, i < S.length → w.cell? ⟨g, o + i, none⟩ = some (.string (txt (S.getD i [])))
theorem SsAt.only {w w' : World} {B : Nat} {p : Option Addr} {S : List (List UInt8)} (h : SsAt w p S) (hb : Below w.heap.size w w') : SsAt w' p S := by
  rcases h with h | ⟨g, o, e, h⟩
  · exact .inl h
  · exact .inr ⟨g, o, e, fun i hi => (hb.cell (World.block_lt_of_cell? w _ (h i hi))).trans (h i hi)⟩
def hasS (S : List (List UInt8)) (x : ByteArray) : Bool := S.any fun s => decide (txt s = x)
theorem hasS_no {S : List (List UInt8)} {x : ByteArray} (h : ∀ i, i < S.length → ¬ txt (S.getD i []) = x) : hasS S x = false := by
  unfold hasS
  rw [List.any_eq_false]
  intro s hs
  obtain ⟨i, hi, e⟩ := List.mem_iff_getElem.1 hs
  have := h i hi
  rw [List.getD_eq_getElem?_getD, List.getElem?_eq_getElem hi, Option.getD_some, e] at this
  simpa using this
theorem hasS_yes {S : List (List UInt8)} {x : ByteArray} {i : Nat} (hi : i < S.length) (h : txt (S.getD i []) = x) : hasS S x = true := by
  unfold hasS
  rw [List.any_eq_true]
  refine ⟨S.getD i [], ?_, by simpa using h⟩
  rw [List.getD_eq_getElem?_getD, List.getElem?_eq_getElem hi, Option.getD_some]
  exact List.getElem_mem hi
set_option maxRecDepth 100000 in
theorem index_any (S : List (List UInt8)) (x : ByteArray) (p : Option Addr) (c : Nat) (w : World) (hS : SsAt w p S) (hs : S.length ≤ 100) :
    Calls Tryz.prog 123 #[.slice p S.length c, .string x] w fun e w' => (∃ r : Int, e = .returned (.int .i64 r) ∧ decide (0 ≤ r) = hasS S x) ∧ Below w.heap.size w w' := by
  replace hS : Hid _ := hS
  go_enter Tryz.func123, Tryz.ntmps123
  go_wp2_with fail
  go_loop [5, 8] (fun _ v => ∃ i : Nat, i ≤ S.length ∧ v = .int .i64 i ∧ ∀ j, j < i → ¬ txt (S.getD j []) = x) (fun _ v => S.length - (intOf v).toNat)
  case atStart => exact ⟨0, by omega, rfl, fun j hj => absurd hj (by omega)⟩
  case round =>
    obtain ⟨i, hi, rfl, hno⟩ := hrel
    by_cases hlt : i < S.length
    · obtain ⟨g, o, rfl, h⟩ := (hS.out).resolve_left (fun e => by rw [e] at hlt; simp at hlt)
      have hc := h i hlt
      clear h
      have hy := @hasS_yes S x i hlt
      generalize hsv : S.getD i [] = s at *
      replace hno : Hid _ := hno
      replace hsv : Hid _ := hsv
      by_cases he : txt s = x
      · have hy2 := hy he
        replace hy2 : Hid _ := hy2
        subst he
        go_wp2_with fail
        go_returns
        exact ⟨⟨_, rfl, by first | omega | (rw [hy2.out]; simp)⟩, Below.refl _ _⟩
      · have he2 : (x.toList == (txt s).toList) = false := by rw [same_texts]; exact decide_eq_false (fun e => he e.symm)
        clear hy
        replace he : Hid _ := he
        go_wp2_with fail
        exact ⟨⟨i + 1, by omega, rfl, fun k hk => by
          by_cases e : k = i
          · subst e; rw [hsv.out]; exact he.out
          · exact hno.out k (by omega)⟩, by show S.length - ((i : Int) + 1).toNat < S.length - (i : Int).toNat; omega⟩
    · have hi2 : i = S.length := by omega
      have hf := hasS_no (x := x) (fun k hk => hno k (by omega))
      replace hf : Hid _ := hf
      replace hno : Hid _ := hno
      go_wp2_with fail
      go_returns
      exact ⟨⟨_, rfl, by rw [hf.out]; simp⟩, Below.refl _ _⟩
theorem contains_any (S : List (List UInt8)) (x : ByteArray) (p : Option Addr) (c : Nat) (w : World) (hS : SsAt w p S) (hs : S.length ≤ 100) :
    Calls Tryz.prog 92 #[.slice p S.length c, .string x] w fun e w' => e = .returned (.bool (hasS S x)) ∧ Below w.heap.size w w' := by
  have hI := index_any S x p c w hS hs
  clear hS
  replace hI : Hid _ := hI
  go_enter Tryz.func92, Tryz.ntmps92
  go_wp2_with (go_at_call 123; refine Calls.mono hI.out ?_; rintro e w1 ⟨⟨r, rfl, hr⟩, hb1⟩)
  go_returns
  exact ⟨rfl, hb1⟩
theorem headL_k (E : Nat) (L : List Tk) : (headL E L).k = kindL L := by cases L <;> rfl
theorem headL_a (E : Nat) (L : List Tk) : (headL E L).at' = placeL E L := by cases L <;> rfl
/-- Is the next word one of these? -/
def isAny (S : List (List UInt8)) (L : List Tk) : Bool := S.any fun s => isW s L
theorem txt_eq {a b : List UInt8} : txt a = txt b ↔ a = b := ⟨fun h => by
  have := congrArg (fun s : ByteArray => s.data.toList) h
  simpa [txt] using this, fun h => by rw [h]⟩
theorem isAny_has (S : List (List UInt8)) (E : Nat) (L : List Tk) : isAny S L = ((decide (kindL L = 2) || decide (kindL L = 5)) && hasS S (txt (headL E L).t)) := by
  cases L with
  | nil =>
    unfold isAny isW kindL
    simp
  | cons t L =>
    unfold isAny hasS isW kindL headL
    rw [Bool.eq_iff_iff]
    simp only [List.any_eq_true, Bool.and_eq_true, Bool.or_eq_true, decide_eq_true_eq, txt_eq]
    exact ⟨fun ⟨s, h1, h2, h3⟩ => ⟨h2, s, h1, h3.symm⟩, fun ⟨h2, s, h1, h3⟩ => ⟨s, h1, h2, h3.symm⟩⟩
set_option maxRecDepth 100000 in
theorem isNext_any {w : World} {B E d : Nat} {L : List Tk} (h : Rd w B E d L) (S : List (List UInt8)) (p : Option Addr) (c : Nat) (hS : SsAt w p S) (hs : S.length ≤ 100) :
    Calls Tryz.prog 61 #[rp B, .slice p S.length c] w fun e w' => e = .returned (.bool (isAny S L)) ∧ Below w.heap.size w w' := by
  rw [isAny_has S E L]
  have hN := next_any h
  have hk := headL_k E L
  rw [← hk]
  clear hk h
  unfold tkV tokV at hN
  generalize headL E L = t at *
  obtain ⟨k, tx, n, a⟩ := t
  dsimp only at hN ⊢
  have hC := fun w1 (hb : Below w.heap.size w w1) => contains_any S (txt tx) p c w1 (hS.only (B := 0) hb) hs
  clear hS
  generalize txt tx = x at *
  generalize hasS S x = b at *
  replace hN : Hid _ := hN
  replace hC : Hid _ := hC
  by_cases h2 : k = 2
  · subst h2
    go_enter Tryz.func61, Tryz.ntmps61
    go_wp2_with (first
      | (go_at_call 91; refine Calls.mono hN.out ?_; rintro e w1 ⟨rfl, hb1⟩)
      | (go_at_call 92; refine Calls.mono (hC.out _ (below_on hb1 (below_new _ _))) ?_; rintro e w2 ⟨rfl, hb2⟩))
    go_returns
    exact ⟨rfl, below_on (below_on hb1 (below_new _ _)) hb2⟩
  · have e2 : (k == 2) = false := by rw [beq_eq_false_iff_ne]; exact h2
    by_cases h5 : k = 5
    · subst h5
      go_enter Tryz.func61, Tryz.ntmps61
      go_wp2_with (first
        | (go_at_call 91; refine Calls.mono hN.out ?_; rintro e w1 ⟨rfl, hb1⟩)
        | (go_at_call 92; refine Calls.mono (hC.out _ (below_on hb1 (below_new _ _))) ?_; rintro e w2 ⟨rfl, hb2⟩))
      go_returns
      exact ⟨rfl, below_on (below_on hb1 (below_new _ _)) hb2⟩
    · have e5 : (k == 5) = false := by rw [beq_eq_false_iff_ne]; exact h5
      go_enter Tryz.func61, Tryz.ntmps61
      go_wp2_with (go_at_call 91; refine Calls.mono hN.out ?_; rintro e w1 ⟨rfl, hb1⟩)
      go_returns
      exact ⟨by simp [h2, h5], below_on hb1 (below_new _ _)⟩
end Go.Proofs.YtkcnpbckmdgfnaaGreatDoor
