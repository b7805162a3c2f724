/-
  append at a step of a region that draws its order, onto a row of the call's own; nodes and edges as rows.
-/
import Derived.Test.YtmioohbailhppaaDoorPur
import Derived.Deep.AppendLies
import Derived.Deep.RegionHeld3
import Derived.Laws.OwnMore
namespace Go.Proofs.YtmioohbailhppaaDoor
open Go.RowKit
set_option linter.unusedSimpArgs false
set_option linter.unusedVariables false

/-- What is put behind: nothing, or cells. -/
def NewsAt (w : World) (size : Nat) (xv : Value) (m : Nat) (news : List Value) : Prop :=
  (xv = .slice none 0 0 ∧ m = 0 ∧ news = []) ∨ ∃ ad c, xv = .slice (some ad) m c ∧ news.length = m * size ∧ ∀ j u, news[j]? = some u → w.cell? (ad.add j) = some u
theorem step_append_any {P : Program} (w : World) {ops : Array Oper} {o : Oper} {a : Act} {K : Act → World → Prop} {Q : Exit → Act → World → Prop} {E : Prop} (hgd : o.guard = none) (s x : Operand) (t : TypeId)
    (ho : o.op = .call { callee := .builtin .append, args := #[s, x], argTypes := #[t, t] })
    (base : Nat) (e : TypeId) (i : TypeInfo) (z : Value) (size bytes : Nat) (ht : P.underlying t = some (.slice e)) (hi : P.info? e = some i) (hz : i.zero = some z)
    (hsize : i.size = size) (hby : i.bytes = bytes) (hzs : z.cells.size = size) (hsz : 0 < size)
    (k c0 n : Nat) (xs : List Value) (hs : a.eval s = .slice (some ⟨k, 0, none⟩) n c0) (hown : w.ownsRow base e size (.slice (some ⟨k, 0, none⟩) n c0) n xs)
    (xv : Value) (m : Nat) (news : List Value) (hx : a.eval x = xv) (hnews : NewsAt w size xv m news) (h1 : ∀ u ∈ news, u.oneCell' = true)
    (N : Nat) (ys : List Value) (hN : n + m = N) (hys : xs ++ news = ys) (h63 : N ≤ maxLen) (hbytes : N * bytes ≤ 140737488355328) (hbase : base ≤ w.heap.size)
    (h : ∀ g cap w', w'.ownsRow base e size (.slice (some ⟨g, 0, none⟩) N cap) N ys → w.grownBy w' (some k) → K (a.put o.dst (.slice (some ⟨g, 0, none⟩) N cap)) w') :
    if Region.wanted o (yielded ops a.tmps) = true then Oper.wp P o a w K Q else E := by
  subst hN
  subst hys
  have hw : Region.wanted o (yielded ops a.tmps) = true := by simp [Region.wanted, hgd]
  rw [if_pos hw]
  have key : ∃ g cap w', (Builtin.append_ #[t, t] o.type #[.slice (some ⟨k, 0, none⟩) n c0, xv]).run P w = .ok (.slice (some ⟨g, 0, none⟩) (n + m) cap) w' ∧ w'.ownsRow base e size (.slice (some ⟨g, 0, none⟩) (n + m) cap) (n + m) (xs ++ news) ∧ w.grownBy w' (some k) := by
    rcases hnews with ⟨rfl, rfl, rfl⟩ | ⟨ad, c, rfl, hl, hn⟩
    · refine ⟨k, c0, w, run_append_owned_none w base t o.type e i size ht hi _ n xs hown, by simpa using hown, ⟨rfl, rfl, rfl, Nat.le_refl _, fun _ _ _ => rfl⟩⟩
    · obtain ⟨v', w', hr, h2, h3, h4, h5⟩ := run_append_own_at (P := P) w base t o.type e i z size bytes ht hi hz hsize hby hzs hsz _ n xs hown ad m c news hl hn h1 h63 hbytes hbase
      rcases h2.2 with ⟨rfl, _⟩ | ⟨g, cap, cur, rfl, _⟩
      · exact absurd (h4.1 rfl).1 (by simp)
      · exact ⟨g, cap, w', hr, h2, h3⟩
  obtain ⟨g, cap, w', hr, h2, h3⟩ := key
  unfold Oper.wp execOp
  simp only [ho, resolve, invoke, builtin, Sem.run_bind, Sem.run_pure, Result.andThen_ok, List.map_toArray, List.map_cons, List.map_nil, hs, hx, hr]
  exact h g cap w' h2 h3

theorem own_empty {w : World} {k base : Nat} {e : TypeId} (size : Nat) (hb : base ≤ k) (h : w.heap[k]? = some (.cells #[] e)) : w.ownsRow base e size (.slice (some ⟨k, 0, none⟩) 0 0) 0 [] :=
  ⟨by simp, .inr ⟨k, 0, #[], rfl, hb, h, Nat.le_refl _, Nat.zero_le _, by simp, by simp⟩⟩
theorem below_grown {B : Nat} {W w w' : World} {k : Nat} (h : Below B W w) (hg : w.grownBy w' (some k)) (hk : B ≤ k) (hB : B ≤ W.heap.size) : Below B W w' :=
  ⟨hg.os.trans h.os, hg.tape.trans h.tape, hg.output.trans h.output, Nat.le_trans h.size hg.size, fun i hi => (hg.block i (by have := h.size; omega) (by simp; omega)).trans (h.block i hi)⟩

/-- An edge's cells, a node's. -/
def cellsE (y : ED) : List Value := [.int .i64 y.id, .string y.lab, .int .i64 y.fr, .int .i64 y.tt, .slice y.p y.l y.c]
def cellsN (y : ND) : List Value := [.int .i64 y.id, .string y.lab, .slice y.p y.l y.c]
def rowE (L : List ED) : List Value := L.flatMap cellsE
def rowN (L : List ND) : List Value := L.flatMap cellsN
theorem flat_at {α : Type} [Inhabited α] (f : α → List Value) (s : Nat) (hs : ∀ x, (f x).length = s) : ∀ (L : List α) (i k : Nat), i < L.length → k < s → (L.flatMap f)[i * s + k]? = (f (L.getD i default))[k]?
  | [], i, k, hi, _ => by simp at hi
  | x :: r, 0, k, _, hk => by
    rw [List.flatMap_cons, List.getElem?_append_left (by rw [hs]; omega)]
    simp
  | x :: r, i + 1, k, hi, hk => by
    rw [List.flatMap_cons, List.getElem?_append_right (by rw [hs, Nat.add_mul]; omega), hs]
    have := flat_at f s hs r i k (by simpa using hi) hk
    rw [show (i + 1) * s + k - s = i * s + k by rw [Nat.add_mul]; omega, this]
    simp
theorem flat_len {α : Type} (f : α → List Value) (s : Nat) (hs : ∀ x, (f x).length = s) : ∀ L : List α, (L.flatMap f).length = L.length * s
  | [] => by simp
  | x :: r => by rw [List.flatMap_cons, List.length_append, hs, flat_len f s hs r, List.length_cons, Nat.add_mul]; omega
theorem flat_one {α : Type} (f : α → List Value) (h : ∀ x, ∀ u ∈ f x, u.oneCell' = true) (L : List α) : ∀ u ∈ L.flatMap f, u.oneCell' = true := by
  intro u hu
  obtain ⟨x, _, hx⟩ := List.mem_flatMap.1 hu
  exact h x u hx
theorem oneE (y : ED) : ∀ u ∈ cellsE y, u.oneCell' = true := by
  intro u hu
  simp [cellsE] at hu
  rcases hu with rfl | rfl | rfl | rfl | rfl <;> rfl
theorem oneN (y : ND) : ∀ u ∈ cellsN y, u.oneCell' = true := by
  intro u hu
  simp [cellsN] at hu
  rcases hu with rfl | rfl | rfl <;> rfl
/-- What is said of an edge besides its cells. -/
structure EDok (w : World) (x : ED) : Prop where
  iz : I64 x.id
  fz : I64 x.fr
  tz : I64 x.tt
  sz : x.lab.size ≤ maxLen
  ln : x.ps.length = x.l
  lm : x.l ≤ maxLen
  ps : PVsAt w x.p x.ps
structure NDok (w : World) (x : ND) : Prop where
  iz : I64 x.id
  sz : x.lab.size ≤ maxLen
  ln : x.ps.length = x.l
  lm : x.l ≤ maxLen
  ps : PVsAt w x.p x.ps
theorem EDok.below {w w' : World} {x : ED} (h : EDok w x) (hb : Below w.heap.size w w') : EDok w' x := { h with ps := h.ps.below hb }
theorem NDok.below {w w' : World} {x : ND} (h : NDok w x) (hb : Below w.heap.size w w') : NDok w' x := { h with ps := h.ps.below hb }
theorem EDsAt.oks {w : World} {a : Option Addr} {L : List ED} (h : EDsAt w a L) : ∀ i, i < L.length → EDok w (L.getD i default) := by
  rcases h with rfl | ⟨g, off, e, h⟩
  · intro i hi; simp at hi
  · intro i hi
    have k := h i hi
    exact ⟨k.iz, k.fz, k.tz, k.sz, k.ln, k.lm, k.ps⟩
theorem NDsAt.oks {w : World} {a : Option Addr} {L : List ND} (h : NDsAt w a L) : ∀ i, i < L.length → NDok w (L.getD i default) := by
  rcases h with rfl | ⟨g, off, e, h⟩
  · intro i hi; simp at hi
  · intro i hi
    have k := h i hi
    exact ⟨k.iz, k.sz, k.ln, k.lm, k.ps⟩
theorem EDsAt.news {w : World} {a : Option Addr} {L : List ED} {c : Nat} (h : EDsAt w a L) (ha : a = none → L = [] ∧ c = 0) : NewsAt w 5 (.slice a L.length c) L.length (rowE L) := by
  cases a with
  | none =>
    obtain ⟨rfl, rfl⟩ := ha rfl
    exact .inl ⟨rfl, rfl, rfl⟩
  | some ad =>
    refine .inr ⟨ad, c, rfl, flat_len cellsE 5 (fun _ => rfl) L, fun j u hu => ?_⟩
    rcases h with rfl | ⟨g, off, e, h⟩
    · simp [rowE] at hu
    · cases e
      have hjl : j < L.length * 5 := by
        have := (List.getElem?_eq_some_iff.1 hu).1
        rwa [rowE, flat_len cellsE 5 (fun _ => rfl) L] at this
      have hj : j = j / 5 * 5 + j % 5 := by omega
      have hi : j / 5 < L.length := by omega
      have k := h (j / 5) hi
      rw [hj, rowE, flat_at cellsE 5 (fun _ => rfl) L _ _ hi (Nat.mod_lt _ (by omega))] at hu
      rw [add_plain, show off + j = off + j / 5 * 5 + j % 5 by omega]
      have h5 : j % 5 = 0 ∨ j % 5 = 1 ∨ j % 5 = 2 ∨ j % 5 = 3 ∨ j % 5 = 4 := by omega
      rcases h5 with h5 | h5 | h5 | h5 | h5 <;> rw [h5] at hu ⊢ <;> simp [cellsE] at hu <;> subst hu
      · exact k.c0
      · exact k.c1
      · exact k.c2
      · exact k.c3
      · exact k.c4
theorem NDsAt.news {w : World} {a : Option Addr} {L : List ND} {c : Nat} (h : NDsAt w a L) (ha : a = none → L = [] ∧ c = 0) : NewsAt w 3 (.slice a L.length c) L.length (rowN L) := by
  cases a with
  | none =>
    obtain ⟨rfl, rfl⟩ := ha rfl
    exact .inl ⟨rfl, rfl, rfl⟩
  | some ad =>
    refine .inr ⟨ad, c, rfl, flat_len cellsN 3 (fun _ => rfl) L, fun j u hu => ?_⟩
    rcases h with rfl | ⟨g, off, e, h⟩
    · simp [rowN] at hu
    · cases e
      have hjl : j < L.length * 3 := by
        have := (List.getElem?_eq_some_iff.1 hu).1
        rwa [rowN, flat_len cellsN 3 (fun _ => rfl) L] at this
      have hj : j = j / 3 * 3 + j % 3 := by omega
      have hi : j / 3 < L.length := by omega
      have k := h (j / 3) hi
      rw [hj, rowN, flat_at cellsN 3 (fun _ => rfl) L _ _ hi (Nat.mod_lt _ (by omega))] at hu
      rw [add_plain, show off + j = off + j / 3 * 3 + j % 3 by omega]
      have h5 : j % 3 = 0 ∨ j % 3 = 1 ∨ j % 3 = 2 := by omega
      rcases h5 with h5 | h5 | h5 <;> rw [h5] at hu ⊢ <;> simp [cellsN] at hu <;> subst hu
      · exact k.c0
      · exact k.c1
      · exact k.c2
theorem news_block {w : World} {B : Nat} {cs : List Value} {t : TypeId} {size : Nat} (hb : w.heap[B]? = some (.cells cs.toArray t)) (hl : cs.length = size) : NewsAt w size (.slice (some ⟨B, 0, none⟩) 1 1) 1 cs :=
  .inr ⟨⟨B, 0, none⟩, 1, rfl, by omega, fun j u hu => World.news_of_block hb j u (by simpa using hu)⟩
/-- A row of edges is a list of edges. -/
theorem edges_of {w : World} {base g cap : Nat} {L : List ED} (h : w.ownsRow base 46 5 (.slice (some ⟨g, 0, none⟩) L.length cap) L.length (rowE L)) (hk : ∀ i, i < L.length → EDok w (L.getD i default)) : EDsAt w (some ⟨g, 0, none⟩) L := by
  refine .inr ⟨g, 0, rfl, fun i hi => ?_⟩
  have hc : ∀ q, q < 5 → w.cell? ⟨g, 0 + i * 5 + q, none⟩ = (cellsE (L.getD i default))[q]? := fun q hq => by
    rw [show 0 + i * 5 + q = i * 5 + q by omega, h.cellAt (i * 5 + q) (by omega), rowE, flat_at cellsE 5 (fun _ => rfl) L i q hi hq]
  have k := hk i hi
  exact ⟨hc 0 (by omega), hc 1 (by omega), hc 2 (by omega), hc 3 (by omega), hc 4 (by omega), k.iz, k.fz, k.tz, k.sz, k.ln, k.lm, k.ps⟩
theorem nodes_of {w : World} {base g cap : Nat} {L : List ND} (h : w.ownsRow base 44 3 (.slice (some ⟨g, 0, none⟩) L.length cap) L.length (rowN L)) (hk : ∀ i, i < L.length → NDok w (L.getD i default)) : NDsAt w (some ⟨g, 0, none⟩) L := by
  refine .inr ⟨g, 0, rfl, fun i hi => ?_⟩
  have hc : ∀ q, q < 3 → w.cell? ⟨g, 0 + i * 3 + q, none⟩ = (cellsN (L.getD i default))[q]? := fun q hq => by
    rw [show 0 + i * 3 + q = i * 3 + q by omega, h.cellAt (i * 3 + q) (by omega), rowN, flat_at cellsN 3 (fun _ => rfl) L i q hi hq]
  have k := hk i hi
  exact ⟨hc 0 (by omega), hc 1 (by omega), hc 2 (by omega), k.iz, k.sz, k.ln, k.lm, k.ps⟩
theorem rowE_more (L : List ED) (y : ED) : rowE L ++ cellsE y = rowE (L ++ [y]) := by simp [rowE]
theorem rowN_more (L : List ND) (y : ND) : rowN L ++ cellsN y = rowN (L ++ [y]) := by simp [rowN]
theorem EDok.more {w : World} {L : List ED} {y : ED} (h : ∀ i, i < L.length → EDok w (L.getD i default)) (hy : EDok w y) : ∀ i, i < (L ++ [y]).length → EDok w ((L ++ [y]).getD i default) := by
  intro i hi
  simp at hi
  by_cases e : i = L.length
  · subst e; rw [getD_last]; exact hy
  · rw [getD_left _ _ _ (by omega)]; exact h i (by omega)
theorem NDok.more {w : World} {L : List ND} {y : ND} (h : ∀ i, i < L.length → NDok w (L.getD i default)) (hy : NDok w y) : ∀ i, i < (L ++ [y]).length → NDok w ((L ++ [y]).getD i default) := by
  intro i hi
  simp at hi
  by_cases e : i = L.length
  · subst e; rw [getD_last]; exact hy
  · rw [getD_left _ _ _ (by omega)]; exact h i (by omega)
theorem info46 : (Tryd.prog.info? 46).map (fun i => (i.zero, i.size, i.bytes)) = some (some (.agg #[.int .i64 0, .string ⟨#[]⟩, .int .i64 0, .int .i64 0, .slice none 0 0]), 5, 64) := by kernel_rfl
theorem info44 : (Tryd.prog.info? 44).map (fun i => (i.zero, i.size, i.bytes)) = some (some (.agg #[.int .i64 0, .string ⟨#[]⟩, .slice none 0 0]), 3, 48) := by kernel_rfl
end Go.Proofs.YtmioohbailhppaaDoor
