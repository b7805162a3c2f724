/-
  Types in memory of their own: copyTypes. Rows of a call's own, in which cells are written.
-/
import Derived.Test.YtmioohbailhppaaDoorCln
import Derived.LoopTactic
namespace Go.Proofs.YtmioohbailhppaaDoor
open Go.RowKit
set_option linter.unusedSimpArgs false
set_option linter.unusedVariables false

theorem divk (k i q : Nat) (hq : q < k) : (i * k + q) / k = i := by
  rw [Nat.add_comm, Nat.add_mul_div_right _ _ (by omega), Nat.div_eq_of_lt hq]; omega
/-- A row of elements of k cells, from a block's beginning on. -/
structure OR {α : Type} [Inhabited α] (w : World) (g k : Nat) (cs : α → List Value) (M : List α) : Prop where
  cell : ∀ i, i < M.length → ∀ q, q < k → w.cell? ⟨g, i * k + q, none⟩ = (cs (M.getD i default))[q]?
  fr : ∀ j, w.frozen? ⟨g, j, none⟩ = false
section
variable {α : Type} [Inhabited α] {w w' : World} {g k : Nat} {cs : α → List Value} {M : List α}
theorem getD_set_same (i : Nat) (y : α) (h : i < M.length) : (M.set i y).getD i default = y := by simp [List.getD, h]
theorem getD_set_ne (i j : Nat) (y : α) (h : i ≠ j) : (M.set i y).getD j default = M.getD j default := by simp [List.getD, List.getElem?_set, h]
theorem OR.below (h : OR w g k cs M) (hg : g < w.heap.size) (hb : Below w.heap.size w w') : OR w' g k cs M :=
  ⟨fun i hi q hq => (hb.cell (p := ⟨g, i * k + q, none⟩) hg).trans (h.cell i hi q hq), fun j => (hb.frozen (p := ⟨g, j, none⟩) hg).trans (h.fr j)⟩
theorem OR.set (h : OR w g k cs M) (hl : ∀ x, (cs x).length = k) {i q0 : Nat} (hi : i < M.length) (hq0 : q0 < k) (y : α) (u : Value) (hu : (cs y)[q0]? = some u) (ho : ∀ q, q < k → q ≠ q0 → (cs y)[q]? = (cs (M.getD i default))[q]?) :
    OR (w.setCell ⟨g, i * k + q0, none⟩ u) g k cs (M.set i y) := by
  refine ⟨fun i' hi' q hq => ?_, fun j => by simpa using h.fr j⟩
  have hi'' : i' < M.length := by simpa using hi'
  by_cases e : i' = i
  · subst e
    rw [getD_set_same _ _ hi]
    by_cases eq : q = q0
    · subst eq
      rw [hu]
      refine World.cell?_setCell_same' _ _ _ ?_
      rw [h.cell i' hi q hq]
      have : q < (cs (M.getD i' default)).length := by rw [hl]; exact hq
      rw [List.getElem?_eq_getElem this]
      rfl
    · rw [World.cell?_setCell_other _ _ _ _ (by intro e'; simp at e' <;> omega), h.cell i' hi q hq, ho q hq eq]
  · rw [getD_set_ne _ _ _ (fun e' => e e'.symm), World.cell?_setCell_other _ _ _ _ (by
      intro e'
      simp at e'
      have h1 := divk k i' q hq
      rw [← e', divk k i q0 hq0] at h1
      exact e h1.symm), h.cell i' hi'' q hq]
end
/-- What a call owns: nothing, or a row. -/
theorem own_row {α : Type} [Inhabited α] {w : World} {base n k : Nat} {e : TypeId} {u : Value} {cs : α → List Value} {L : List α} (hk : ∀ x, (cs x).length = k) (hn : L.length = n) (h : w.ownsRow base e k u n (L.flatMap cs)) :
    (u = .slice none 0 0 ∧ n = 0 ∧ L = []) ∨ ∃ g cap, u = .slice (some ⟨g, 0, none⟩) n cap ∧ base ≤ g ∧ g < w.heap.size ∧ n ≤ cap ∧ cap ≤ maxLen ∧ OR w g k cs L := by
  rcases h.2 with ⟨rfl, h0⟩ | ⟨g, cap, cur, rfl, hb, hg, hnc, hcm, hcs, ht⟩
  · exact .inl ⟨rfl, h0, List.eq_nil_of_length_eq_zero (by omega)⟩
  · refine .inr ⟨g, cap, rfl, hb, ?_, hnc, hcm, fun i hi q hq => ?_, fun j => by simp [World.frozen?, hg]⟩
    · have := Array.getElem?_eq_some_iff.1 hg
      exact this.1
    · have hlt : i * k + q < n * k := by
        have := Nat.mul_le_mul_right k (show i + 1 ≤ n by omega)
        rw [Nat.add_mul, Nat.one_mul] at this
        omega
      rw [h.cellAt (i * k + q) hlt, flat_at cs k hk L i q hi hq]
/-- A block that another one is not. -/
def NB (g : Nat) (a : Option Addr) : Prop := ∀ ad, a = some ad → ad.block ≠ g
/-- No block below. -/
def HB (b : Nat) (a : Option Addr) : Prop := ∀ ad, a = some ad → b ≤ ad.block
theorem HB.nb {b g : Nat} {a : Option Addr} (h : HB b a) (hg : g < b) : NB g a := fun ad e => by have := h ad e; omega
theorem PDsAt.only {w w' : World} {a : Option Addr} {L : List PD} {g : Nat} (h : PDsAt w a L) (hO : Only (fun k => k = g) w w') (hg : NB g a) : PDsAt w' a L := by
  rcases h with h | ⟨b, off, e, h⟩
  · exact .inl h
  · have hne : b ≠ g := by simpa using hg _ e
    refine .inr ⟨b, off, e, fun i hi => ?_⟩
    have k := h i hi
    have hb := hO.block b (World.block_lt_of_cell? w _ k.c0) hne
    exact ⟨(cell_of_block (a := ⟨b, _, none⟩) hb).trans k.c0, (cell_of_block (a := ⟨b, _, none⟩) hb).trans k.c1, k.sz⟩
structure TDok (w : World) (x : TD) : Prop where
  sz : x.n.size ≤ maxLen
  ln : x.ps.length = x.l
  lc : x.l ≤ x.c
  lm : x.c ≤ maxLen
  ps : PDsAt w x.p x.ps
  pz : ∀ i, i < x.ps.length → (x.ps.getD i default).n.size ≤ maxLen
theorem PDsAt.pz {w : World} {a : Option Addr} {L : List PD} (h : PDsAt w a L) : ∀ i, i < L.length → (L.getD i default).n.size ≤ maxLen := by
  rcases h with rfl | ⟨g, off, e, h⟩
  · intro i hi; simp at hi
  · exact fun i hi => (h i hi).sz
theorem TDsAt.oks {w : World} {a : Option Addr} {L : List TD} (h : TDsAt w a L) : ∀ i, i < L.length → TDok w (L.getD i default) := by
  rcases h with rfl | ⟨g, off, e, h⟩
  · intro i hi; simp at hi
  · intro i hi
    have k := h i hi
    exact ⟨k.sz, k.ln, k.lc, k.lm, k.ps, k.ps.pz⟩
/-- A type's copy. -/
structure TDcp (w : World) (b g : Nat) (x y : TD) : Prop where
  n : y.n = x.n
  ps : y.ps = x.ps
  l : y.l = x.l
  lc : y.l ≤ y.c
  lm : y.c ≤ maxLen
  at_ : PDsAt w y.p y.ps
  nb : NB g y.p
  hi : HB b y.p
theorem TDcp.below {w w' : World} {b g : Nat} {x y : TD} (h : TDcp w b g x y) (hb : Below w.heap.size w w') : TDcp w' b g x y := { h with at_ := h.at_.below hb }
theorem TDcp.only {w w' : World} {b g : Nat} {x y : TD} (h : TDcp w b g x y) (hO : Only (fun k => k = g) w w') : TDcp w' b g x y := { h with at_ := h.at_.only hO h.nb }
structure CT (w wr : World) (g : Nat) (L M : List TD) (j : Nat) : Prop where
  bel : Below w.heap.size w wr
  or_ : OR wr g 2 cellsT M
  len : M.length = L.length
  lo : w.heap.size ≤ g
  lt : g < wr.heap.size
  old : ∀ k, k < L.length → j ≤ k → M.getD k default = L.getD k default
  new : ∀ k, k < j → k < L.length → TDcp wr w.heap.size g (L.getD k default) (M.getD k default)
theorem CT.below {w wr w' : World} {g : Nat} {L M : List TD} {j : Nat} (h : CT w wr g L M j) (hb : Below wr.heap.size wr w') : CT w w' g L M j :=
  { h with bel := below_on h.bel hb, or_ := h.or_.below h.lt hb, lt := Nat.lt_of_lt_of_le h.lt hb.size, new := fun k hk hl => (h.new k hk hl).below hb }
theorem CT.put {w wr : World} {g : Nat} {L M : List TD} {j : Nat} (h : CT w wr g L M j) (hj : j < L.length) (p : Option Addr) (c : Nat) (hp : PDsAt wr p (L.getD j default).ps) (hg : NB g p) (hh : HB w.heap.size p) (hlc : (L.getD j default).l ≤ c) (hc : c ≤ maxLen) :
    CT w (wr.setCell ⟨g, j * 2 + 1, none⟩ (.slice p (L.getD j default).l c)) g L (M.set j { L.getD j default with p := p, c := c }) (j + 1) := by
  have hO : Only (fun k => k = g) wr (wr.setCell ⟨g, j * 2 + 1, none⟩ (.slice p (L.getD j default).l c)) := (Only.refl (fun k => k = g) wr).setCell (p := ⟨g, j * 2 + 1, none⟩) (fun _ => rfl) _
  have hjM : j < M.length := by rw [h.len]; exact hj
  have hx := h.old j hj (Nat.le_refl _)
  have hlo := h.lo
  refine ⟨h.bel.trans (hO.below h.bel.size (fun k hk => by omega)), h.or_.set (fun _ => rfl) hjM (by decide) _ _ rfl (fun q hq hne => ?_), by rw [List.length_set]; exact h.len, h.lo, by simpa using h.lt, fun k hk hjk => ?_, fun k hk hl => ?_⟩
  · have : q = 0 := by omega
    subst this
    rw [hx]
    rfl
  · rw [getD_set_ne _ _ _ (by omega)]
    exact h.old k hk (by omega)
  · by_cases e : k = j
    · subst e
      rw [getD_set_same _ _ hjM]
      exact ⟨rfl, rfl, rfl, hlc, hc, hp.only hO hg, hg, hh⟩
    · rw [getD_set_ne _ _ _ (fun e' => e e'.symm)]
      exact (h.new k (by omega) hl).only hO
theorem TDsAt.of_rows {w : World} {g : Nat} {M : List TD} (h : OR w g 2 cellsT M) (hk : ∀ i, i < M.length → TDok w (M.getD i default)) : TDsAt w (some ⟨g, 0, none⟩) M := by
  refine .inr ⟨g, 0, rfl, fun i hi => ?_⟩
  have c := h.cell i hi
  have k := hk i hi
  exact ⟨by rw [Nat.zero_add]; exact c 0 (by decide), by rw [Nat.zero_add]; exact c 1 (by decide), k.sz, k.ln, k.lc, k.lm, k.ps⟩
/-- What is said of a type, wherever it lies. -/
def tC (x : TD) : ByteArray × List PD := (x.n, x.ps)
theorem map_eq {α β : Type} [Inhabited α] (f : α → β) : ∀ (L M : List α), M.length = L.length → (∀ k, k < L.length → f (M.getD k default) = f (L.getD k default)) → M.map f = L.map f
  | [], [], _, _ => rfl
  | [], _ :: _, h, _ => by simp at h
  | _ :: _, [], h, _ => by simp at h
  | x :: L, y :: M, h, hk => by
    have h0 : f y = f x := by simpa using hk 0 (by simp)
    rw [List.map_cons, List.map_cons, h0, map_eq f L M (by simpa using h) (fun k hk' => by simpa using hk (k + 1) (by simpa using hk'))]

/-- Types in memory of their own. -/
def OT (w : World) (b : Nat) (L : List TD) (n : Nat) (p : Option Addr) (c : Nat) : Prop := ∃ M : List TD, TDsAt w p M ∧ M.length = n ∧ M.map tC = L.map tC ∧ n ≤ c ∧ c ≤ maxLen ∧ (p = none → M = [] ∧ c = 0) ∧ HB b p ∧ ∀ x ∈ M, HB b x.p
theorem OT.below {w w' : World} {b : Nat} {L : List TD} {n : Nat} {p : Option Addr} {c : Nat} (h : OT w b L n p c) (hb : Below w.heap.size w w') : OT w' b L n p c := by
  obtain ⟨M, h1, h2⟩ := h
  exact ⟨M, h1.below hb, h2⟩
theorem getD_in {α : Type} [Inhabited α] (L : List α) (i : Nat) (h : i < L.length) : L.getD i default ∈ L := by
  simp [List.getD, List.getElem?_eq_getElem h]
theorem OT.only {w w' : World} {b g : Nat} {L : List TD} {n : Nat} {p : Option Addr} {c : Nat} (h : OT w b L n p c) (hO : Only (fun k => k = g) w w') (hg : g < b) : OT w' b L n p c := by
  obtain ⟨M, h1, h2, h3, h4, h5, h6, h7, h8⟩ := h
  refine ⟨M, ?_, h2, h3, h4, h5, h6, h7, h8⟩
  rcases h1 with h1 | ⟨q, off, e, h1⟩
  · exact .inl h1
  · have hne : q ≠ g := by simpa using h7.nb hg _ e
    refine .inr ⟨q, off, e, fun i hi => ?_⟩
    have k := h1 i hi
    have hb := hO.block q (World.block_lt_of_cell? w _ k.c0) hne
    exact ⟨(cell_of_block (a := ⟨q, _, none⟩) hb).trans k.c0, (cell_of_block (a := ⟨q, _, none⟩) hb).trans k.c1, k.sz, k.ln, k.lc, k.lm, k.ps.only hO ((h8 _ (getD_in M i hi)).nb hg)⟩
theorem cloneP' (a : Option Addr) (n c : Nat) (L : List PD) (w : World) (hn : L.length = n) (hL : PDsAt w a L) (hX : n * 24 ≤ 140737488355328) :
    Calls Tryd.prog 47 #[.slice a n c] w fun e w' => ∃ p c', e = .returned (.slice p n c') ∧ PDsAt w' p L ∧ n ≤ c' ∧ c' ≤ maxLen ∧ (∀ ad, p = some ad → w.heap.size ≤ ad.block) ∧ Below w.heap.size w w' := by
  have hz := hL.pz
  refine (cloneP a n c L w hn hL hX).mono ?_
  rintro e w' ⟨u, rfl, ho, hb⟩
  rcases own_row (cs := cellsP) (fun _ => rfl) hn ho with ⟨rfl, rfl, rfl⟩ | ⟨g, cap, rfl, h1, h2, h3, h4, h5⟩
  · exact ⟨none, 0, rfl, .inl rfl, Nat.le_refl _, Nat.zero_le _, by simp, hb⟩
  · refine ⟨some ⟨g, 0, none⟩, cap, rfl, .inr ⟨g, 0, rfl, fun i hi => ⟨?_, ?_, hz i hi⟩⟩, h3, h4, fun ad e => by cases e; exact h1, hb⟩
    · rw [Nat.zero_add]; exact h5.cell i hi 0 (by decide)
    · rw [Nat.zero_add]; exact h5.cell i hi 1 (by decide)

set_option maxRecDepth 100000 in
set_option maxHeartbeats 4000000 in
theorem copyTypes_any (a : Option Addr) (n c : Nat) (L : List TD) (w : World) (hn : L.length = n) (hL : TDsAt w a L) (hX : n * 40 ≤ 140737488355328) (hF : Few L) :
    Calls Tryd.prog 28 #[.slice a n c] w fun e w' => ∃ p c', e = .returned (.slice p n c') ∧ OT w' w.heap.size L n p c' ∧ Below w.heap.size w w' := by
  have hC := cloneT a n c L w hn hL hX
  have hok := hL.oks
  have hP := fun (x : TD) (hx : TDok w x) (hl : x.ps.length ≤ 32) w' (hb : Below w.heap.size w w') => cloneP' x.p x.l x.c x.ps w' hx.ln (hx.ps.below hb) (by have := hx.ln; omega)
  replace hC : Hid _ := hC
  replace hP : Hid _ := hP
  clear hL
  go_enter Tryd.func28, Tryd.ntmps28
  go_upto_region 2 with (go_at_call 46; refine Calls.mono hC.out ?_; rintro e w1 ⟨u, rfl, ho, hb1⟩)
  rcases own_row (cs := cellsT) (fun _ => rfl) hn ho with ⟨rfl, rfl, rfl⟩ | ⟨g, cap, rfl, h1, h2, h3, h4, h5⟩
  · clear ho
    go_wp2_with fail
    go_loopw [9] (fun i wr => Below w.heap.size w wr ∧ i = .int .i64 0) (fun i _ => 0)
    case atStart => exact ⟨hb1, rfl⟩
    case round =>
      obtain ⟨hb, rfl⟩ := hrel
      go_wp2_with fail
      go_returns
      exact ⟨none, 0, rfl, ⟨[], .inl rfl, rfl, rfl, Nat.le_refl _, Nat.zero_le _, fun _ => ⟨rfl, rfl⟩, by simp [HB], by simp⟩, hb⟩
  · clear ho
    unfold maxLen at h4
    go_wp2_with fail
    go_loopw [9] (fun i wr => ∃ (j : Nat) (M : List TD), j ≤ n ∧ i = .int .i64 j ∧ CT w wr g L M j) (fun i _ => n - (intOf i).toNat)
    case atStart => exact ⟨0, L, by omega, rfl, hb1, h5, rfl, h1, h2, fun _ _ _ => rfl, fun k hk => by omega⟩
    case round =>
      obtain ⟨j, M, j1, rfl, hct⟩ := hrel
      by_cases hj : j < n
      · have hx := hok j (by omega)
        have hl := hF j (by omega)
        have hput := fun w' (hb : Below _ _ w') => (hct.below hb).put (by omega : j < L.length)
        have hc1 := hct.or_.cell j (by rw [hct.len]; omega) 1 (by decide)
        rw [hct.old j (by omega) (Nat.le_refl _)] at hc1
        have hf1 := hct.or_.fr (j * 2 + 1)
        have hbel := hct.bel
        have hlt := hct.lt
        clear hct
        generalize L.getD j default = X at hx hl hput hc1
        have hc1' : wr.cell? ⟨g, j * 2 + 1, none⟩ = some (Value.slice X.p X.l X.c) := hc1
        clear hc1
        replace hput : Hid _ := hput
        go_wp2_with (go_at_call 47; refine Calls.mono (hP.out X hx hl _ hbel) ?_; rintro e w2 ⟨p', c', rfl, q1, q2, q3, q4, hb2⟩; replace hc1' := (hb2.cell (World.block_lt_of_cell? _ _ hc1')).trans hc1'; replace hf1 := (hb2.frozen (p := ⟨g, j * 2 + 1, none⟩) hlt).trans hf1)
        exact ⟨⟨j + 1, _, by omega, rfl, hput.out w2 hb2 p' c' q1 (fun ad e => by have := q4 ad e; omega) (fun ad e => Nat.le_trans hbel.size (q4 ad e)) q2 q3⟩, by show n - ((j : Int) + 1).toNat < n - (j : Int).toNat; omega⟩
      · have hjn : j = n := by omega
        subst hjn
        go_wp2_with fail
        go_returns
        have hoM : ∀ i, i < M.length → TDok wr (M.getD i default) := fun i hi => by
          rw [hct.len] at hi
          have k := hct.new i (by omega) hi
          have x := hok i hi
          exact ⟨by rw [k.n]; exact x.sz, by rw [k.ps, k.l]; exact x.ln, k.lc, k.lm, k.at_, k.at_.pz⟩
        exact ⟨some ⟨g, 0, none⟩, cap, rfl, ⟨M, TDsAt.of_rows hct.or_ hoM, by rw [hct.len, hn], map_eq tC L M hct.len (fun k hk => by have := hct.new k (by omega) hk; simp only [tC]; rw [this.n, this.ps]), h3, by unfold maxLen; omega, by simp, fun ad e => by cases e; exact h1, fun x hx => by
          obtain ⟨i, hi, e⟩ := List.mem_iff_getElem.1 hx
          have hi2 : i < L.length := by rw [← hct.len]; exact hi
          have k := (hct.new i (by omega) hi2).hi
          rw [show M.getD i default = x by rw [← e]; simp [List.getD, List.getElem?_eq_getElem hi]] at k
          exact k⟩, hct.bel⟩
end Go.Proofs.YtmioohbailhppaaDoor
