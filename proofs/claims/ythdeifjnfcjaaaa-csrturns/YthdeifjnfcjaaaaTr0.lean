/-
  Lists of lists that are put behind one another: append at a step of a region that draws its order.
-/
import Derived.Test.YthdeifjnfcjaaaaHead
import Derived.Deep.AppendLies
import Derived.Deep.RegionHeld3
import Derived.Laws.OwnMore
namespace Go.Proofs.Ythdeifjnfcjaaaa
open Go.RowKit
set_option linter.unusedSimpArgs false
set_option linter.unusedVariables false

/-- What is put behind: nothing, or cells. -/
def NewsAt (w : World) (size : Nat) (xv : Value) (m : Nat) (news : List Value) : Prop :=
  (xv = .slice none 0 0 ∧ m = 0 ∧ news = []) ∨ ∃ ad c, xv = .slice (some ad) m c ∧ news.length = m * size ∧ ∀ j u, news[j]? = some u → w.cell? (ad.add j) = some u
theorem step_append_any {P : Program} (w : World) {ops : Array Oper} {o : Oper} {a : Act} {K : Act → World → Prop} {Q : Exit → Act → World → Prop} {E : Prop} (hgd : o.guard = none) (s x : Operand) (t : TypeId)
    (ho : o.op = .call { callee := .builtin .append, args := #[s, x], argTypes := #[t, t] })
    (base : Nat) (e : TypeId) (i : TypeInfo) (z : Value) (size bytes : Nat) (ht : P.underlying t = some (.slice e)) (hi : P.info? e = some i) (hz : i.zero = some z)
    (hsize : i.size = size) (hby : i.bytes = bytes) (hzs : z.cells.size = size) (hsz : 0 < size)
    (k c0 n : Nat) (xs : List Value) (hs : a.eval s = .slice (some ⟨k, 0, none⟩) n c0) (hown : w.ownsRow base e size (.slice (some ⟨k, 0, none⟩) n c0) n xs)
    (xv : Value) (m : Nat) (news : List Value) (hx : a.eval x = xv) (hnews : NewsAt w size xv m news) (h1 : ∀ u ∈ news, u.oneCell' = true)
    (N : Nat) (ys : List Value) (hN : n + m = N) (hys : xs ++ news = ys) (h63 : N ≤ maxLen) (hbytes : N * bytes ≤ 140737488355328) (hbase : base ≤ w.heap.size)
    (h : ∀ g cap w', w'.ownsRow base e size (.slice (some ⟨g, 0, none⟩) N cap) N ys → w.grownBy w' (some k) → K (a.put o.dst (.slice (some ⟨g, 0, none⟩) N cap)) w') :
    if Region.wanted o (yielded ops a.tmps) = true then Oper.wp P o a w K Q else E := by
  subst hN
  subst hys
  have hw : Region.wanted o (yielded ops a.tmps) = true := by simp [Region.wanted, hgd]
  rw [if_pos hw]
  have key : ∃ g cap w', (Builtin.append_ #[t, t] o.type #[.slice (some ⟨k, 0, none⟩) n c0, xv]).run P w = .ok (.slice (some ⟨g, 0, none⟩) (n + m) cap) w' ∧ w'.ownsRow base e size (.slice (some ⟨g, 0, none⟩) (n + m) cap) (n + m) (xs ++ news) ∧ w.grownBy w' (some k) := by
    rcases hnews with ⟨rfl, rfl, rfl⟩ | ⟨ad, c, rfl, hl, hn⟩
    · refine ⟨k, c0, w, run_append_owned_none w base t o.type e i size ht hi _ n xs hown, by simpa using hown, ⟨rfl, rfl, rfl, Nat.le_refl _, fun _ _ _ => rfl⟩⟩
    · obtain ⟨v', w', hr, h2, h3, h4, h5⟩ := run_append_own_at (P := P) w base t o.type e i z size bytes ht hi hz hsize hby hzs hsz _ n xs hown ad m c news hl hn h1 h63 hbytes hbase
      rcases h2.2 with ⟨rfl, _⟩ | ⟨g, cap, cur, rfl, _⟩
      · exact absurd (h4.1 rfl).1 (by simp)
      · exact ⟨g, cap, w', hr, h2, h3⟩
  obtain ⟨g, cap, w', hr, h2, h3⟩ := key
  unfold Oper.wp execOp
  simp only [ho, resolve, invoke, builtin, Sem.run_bind, Sem.run_pure, Result.andThen_ok, List.map_toArray, List.map_cons, List.map_nil, hs, hx, hr]
  exact h g cap w' h2 h3
theorem below_grown {B : Nat} {W w w' : World} {k : Nat} (h : Below B W w) (hg : w.grownBy w' (some k)) (hk : B ≤ k) (hB : B ≤ W.heap.size) : Below B W w' :=
  ⟨hg.os.trans h.os, hg.tape.trans h.tape, hg.output.trans h.output, Nat.le_trans h.size hg.size, fun i hi => (hg.block i (by have := h.size; omega) (by simp; omega)).trans (h.block i hi)⟩
theorem heap_alloc2_old (w : World) (a b : Obj) : ((w.alloc a).alloc b).heap[w.heap.size]? = some a := by
  rw [heap_alloc_old _ _ (by simp)]; exact heap_alloc_new _ _
theorem heap_alloc2_new (w : World) (a b : Obj) : ((w.alloc a).alloc b).heap[w.heap.size + 1]? = some b := by
  have z1 : (w.alloc a).heap.size = w.heap.size + 1 := by simp
  rw [← z1]; exact heap_alloc_new _ _
/-- Lists in a row of the call's own. -/
theorem own_ils {w : World} {base g n cap : Nat} {L : List IL} (h : w.ownsRow base 24 1 (.slice (some ⟨g, 0, none⟩) n cap) n (rowI L)) (hn : L.length = n) (hk : ∀ j, j < L.length → ILok w (L.getD j default)) : ILsAt w (some ⟨g, 0, none⟩) L := by
  refine .inr ⟨g, 0, rfl, fun i hi => ⟨?_, hk i hi⟩⟩
  obtain ⟨g', cap', e1, h1, _, _, _⟩ := own_at h i (by omega)
  cases e1
  rw [Nat.zero_add, h1, rowI_at L i hi]
/-- A part of lists, to be put behind others. -/
theorem ILsAt.part {w : World} {g off : Nat} {L : List IL} (h : ILsAt w (some ⟨g, off, none⟩) L) (k m c : Nat) (hm : k + m ≤ L.length) : NewsAt w 1 (.slice (some ⟨g, off + k, none⟩) m c) m (rowI ((L.drop k).take m)) := by
  refine .inr ⟨_, _, rfl, by rw [rowI_len]; simp; omega, fun j u hu => ?_⟩
  have hj : j < m := by have := (List.getElem?_eq_some_iff.1 hu).1; rw [rowI_len] at this; simp at this; omega
  obtain ⟨g', off', e, h1, _⟩ := h.at (k + j) (by omega)
  cases e
  have hj' : j < ((L.drop k).take m).length := by simp; omega
  have e2 := rowI_at ((L.drop k).take m) j hj'
  have e3 : ((L.drop k).take m).getD j default = L.getD (k + j) default := by
    simp only [List.getD]
    rw [List.getElem?_take_of_lt hj, List.getElem?_drop]
  rw [e3] at e2
  rw [add_plain, Nat.add_assoc, h1, ← hu, e2]
/-- The lists in another order. -/
def turnL (L : List IL) (k : Nat) : List IL := L.drop k ++ L.take k
theorem turnL_len (L : List IL) (k : Nat) : (turnL L k).length = L.length := by simp [turnL]; omega
theorem turnL_mem (L : List IL) (k : Nat) (l : IL) : l ∈ turnL L k ↔ l ∈ L := (mem_turned L k l).symm
theorem getD_mem {L : List IL} {j : Nat} (hj : j < L.length) : L.getD j default ∈ L := by simp [List.getD, hj]
theorem mem_getD {L : List IL} {x : IL} (h : x ∈ L) : ∃ j, j < L.length ∧ L.getD j default = x := by
  obtain ⟨j, hj, e⟩ := List.mem_iff_getElem.1 h
  exact ⟨j, hj, by simp [List.getD, hj, e]⟩
theorem allRis_mem {L : List IL} : allRis L ↔ ∀ x ∈ L, Ris x.z :=
  ⟨fun h x hx => by obtain ⟨j, hj, e⟩ := mem_getD hx; rw [← e]; exact h j hj, fun h j hj => h _ (getD_mem hj)⟩
theorem met_other {L L' : List IL} {M : List Int} (h : IsMet (zl L) M) (e : ∀ x, x ∈ L ↔ x ∈ L') : IsMet (zl L') M :=
  h.other fun l => by
    simp only [zl, List.mem_map]
    exact ⟨fun ⟨x, hx, k⟩ => ⟨x, (e x).1 hx, k⟩, fun ⟨x, hx, k⟩ => ⟨x, (e x).2 hx, k⟩⟩
end Go.Proofs.Ythdeifjnfcjaaaa
