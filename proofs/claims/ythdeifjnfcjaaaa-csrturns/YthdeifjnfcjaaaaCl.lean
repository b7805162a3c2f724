/-
  slices.Clone of lists of lists; what 'common' holds while it goes.
-/
import Derived.Test.YthdeifjnfcjaaaaCb2
namespace Go.Proofs.Ythdeifjnfcjaaaa
open Go.RowKit
set_option linter.unusedSimpArgs false
set_option linter.unusedVariables false

/-- Lists, as they lie. -/
def rowI (L : List IL) : List Value := L.map fun x => .slice x.a x.l x.c
theorem rowI_len (L : List IL) : (rowI L).length = L.length := by simp [rowI]
theorem rowI_set (L : List IL) (i : Nat) (y : IL) : rowI (L.set i y) = (rowI L).set i (.slice y.a y.l y.c) := by simp [rowI, List.map_set]
theorem rowI_at (L : List IL) (i : Nat) (hi : i < L.length) : (rowI L)[i]? = some (.slice (L.getD i default).a (L.getD i default).l (L.getD i default).c) := by simp [rowI, List.getD, hi]
theorem rowI_one (L : List IL) : ∀ u ∈ rowI L, u.oneCell' = true := by
  intro u hu
  obtain ⟨x, _, rfl⟩ := List.mem_map.1 hu
  rfl
theorem ILsAt.cells {w : World} {ad : Addr} {L : List IL} (h : ILsAt w (some ad) L) : ∀ j u, (rowI L)[j]? = some u → w.cell? (ad.add j) = some u := by
  intro j u hu
  have hj : j < L.length := by have := (List.getElem?_eq_some_iff.1 hu).1; rwa [rowI_len] at this
  obtain ⟨g, off, e, h1, _⟩ := h.at j hj
  cases e
  rw [add_plain, h1, ← hu, rowI_at L j hj]
theorem ILsAt.oks {w : World} {a : Option Addr} {L : List IL} (h : ILsAt w a L) (j : Nat) (hj : j < L.length) : ILok w (L.getD j default) := by
  obtain ⟨_, _, _, _, k⟩ := h.at j hj
  exact k
theorem own_empty {w : World} {base b : Nat} {e : TypeId} (k : Nat) (hb : base ≤ b) (h : w.heap[b]? = some (.cells #[] e)) : w.ownsRow base e k (.slice (some ⟨b, 0, none⟩) 0 0) 0 [] :=
  ⟨by simp, .inr ⟨b, 0, #[], rfl, hb, h, by simp⟩⟩
theorem grown_below {B : Nat} {W w w' : World} {row : Option Nat} (h : Below B W w) (hg : w.grownBy w' row) (hk : ∀ k, row = some k → B ≤ k) (hB : B ≤ W.heap.size) : Below B W w' :=
  ⟨hg.os.trans h.os, hg.tape.trans h.tape, hg.output.trans h.output, Nat.le_trans h.size hg.size, fun i hi => (hg.block i (by have := h.size; omega) (fun e => by have := hk i e.symm; omega)).trans (h.block i hi)⟩

set_option maxRecDepth 100000 in
theorem nil_noI (w : World) (a : Addr) (n c : Nat) : (binOp BinOp.eql 22 (.slice (some a) n c) (.slice none 0 0)).run Try.prog w = .ok (.bool false) w := by
  first | rfl | kernel_rfl
set_option maxRecDepth 100000 in
theorem cloneI (ad : Addr) (n c : Nat) (L : List IL) (w : World) (hn : L.length = n) (hL : ILsAt w (some ad) L) (hX : n * 24 ≤ 140737488355328) :
    Calls Try.prog 20 #[.slice (some ad) n c] w fun e w' => ∃ u, e = .returned u ∧ w'.ownsRow w.heap.size 24 1 u n (rowI L) ∧ Below w.heap.size w w' := by
  obtain ⟨i0, hi0, hz0, hz1, hz2⟩ := info_parts info24
  have own0 : (w.alloc (.cells #[] 24)).ownsRow w.heap.size 24 1 (.slice (some ⟨w.heap.size, 0, none⟩) 0 0) 0 [] := own_empty 1 (Nat.le_refl _) (heap_alloc_new _ _)
  have hcl : ∀ j u, (rowI L)[j]? = some u → (w.alloc (.cells #[] 24)).cell? (ad.add j) = some u := fun j u hu => cell_keep _ (hL.cells j u hu)
  have h1 : ∀ u ∈ rowI L, u.oneCell' = true := rowI_one L
  have hlen : (rowI L).length = n * 1 := by rw [rowI_len, hn, Nat.mul_one]
  clear hL
  have hy := nil_noI w ad n c
  generalize rowI L = xs at hcl h1 hlen ⊢
  go_enter Try.func20, Try.ntmps20
  go_wp2_with (at_builtin; refine wpList_append_own_at _ rfl _ _ 22 rfl w.heap.size 24 i0 _ 1 24 Try.underlying22 hi0 hz0 hz1 hz2 rfl (by decide) _ _ _ rfl own0 ad n c xs rfl hlen hcl h1 (by unfold maxLen; omega) (by omega) (by simp) ?_; intro v' w' hown hgrow hnil hat)
  go_returns
  refine ⟨_, rfl, by simpa using hown, grown_below (below_new _ _) hgrow (fun k hk => by cases hk; exact Nat.le_refl _) (Nat.le_refl _)⟩

/-- How many rounds there may be. -/
def mu (l : List Int) (low : Int) : Nat := 2 * l.length + if l.all (fun z => decide (low ≤ z)) then 1 else 0
theorem mu_le (l : List Int) (low : Int) : mu l low ≤ 2 * l.length + 1 := by unfold mu; split <;> omega
theorem mu_drop {l : List Int} (hs : Ris l) (low : Int) : 2 * (l.drop (cb l low)).length + 1 ≤ mu l low := by
  have hle := cb_le l low
  unfold mu
  rw [List.length_drop]
  split
  · omega
  · rename_i h
    have : cb l low ≠ 0 := fun e => h (by
      rw [List.all_eq_true]
      intro z hz
      have := (cb_split hs low).2 z (by rw [e]; exact hz)
      simpa using this)
    omega
theorem mu_head {x low : Int} {t : List Int} (h : x < low) : mu (x :: t) low = 2 * (t.length + 1) := by
  unfold mu
  have : ¬ low ≤ x := by omega
  simp [this]
/-- The first ones of the lists that were gone to in this round. -/
def Ch (R : List IL) (i : Nat) (low : Int) : Prop := ∀ j, j < i → ∃ x t, (R.getD j default).z = x :: t ∧ (R.getD 0 default).z.headD 0 ≤ x ∧ x ≤ low
theorem Ch.next {R : List IL} {i : Nat} {low x : Int} {y : IL} {t : List Int} (h : Ch R i low) (hi : i < R.length) (hy : y.z = x :: t) (hx : low ≤ x) : Ch (R.set i y) (i + 1) x := by
  intro j hj
  by_cases e : j = i
  · subst e
    refine ⟨x, t, by rw [getD_set_same hi]; exact hy, ?_, Int.le_refl _⟩
    by_cases e0 : j = 0
    · subst e0
      rw [getD_set_same hi, hy]
      exact Int.le_refl _
    · rw [getD_set_other (Ne.symm e0)]
      obtain ⟨x0, t0, h1, h2, h3⟩ := h 0 (by omega)
      omega
  · obtain ⟨x0, t0, h1, h2, h3⟩ := h j (by omega)
    refine ⟨x0, t0, by rw [getD_set_other e]; exact h1, ?_, by omega⟩
    by_cases e0 : i = 0
    · omega
    · rw [getD_set_other (Ne.symm e0)]
      exact h2
theorem Ch.all {R : List IL} {low : Int} {t : List Int} (h : Ch R R.length low) (hx : (R.getD 0 default).z = low :: t) : inAll (zl R) low := by
  intro j hj
  rw [zl_len] at hj
  rw [zl_at R j hj]
  obtain ⟨x, t', h1, h2, h3⟩ := h j hj
  rw [hx] at h2
  simp only [List.headD_cons] at h2
  have : x = low := by omega
  rw [h1, this]
  simp
theorem zl_set (R : List IL) (i : Nat) (y : IL) : zl (R.set i y) = (zl R).set i y.z := by simp [zl, List.map_set]

theorem own_below {w w' : World} {base : Nat} {v : Value} {n : Nat} {xs : List Value} {e : TypeId} {k : Nat} (h : w.ownsRow base e k v n xs) (hb : Below w.heap.size w w') : w'.ownsRow base e k v n xs := by
  obtain ⟨h1, h2 | ⟨g, cap, cur, e1, e2, e3, e4⟩⟩ := h
  · exact ⟨h1, .inl h2⟩
  · exact ⟨h1, .inr ⟨g, cap, cur, e1, e2, (hb.block g (Array.getElem?_eq_some_iff.1 e3).1).trans e3, e4⟩⟩
/-- What 'common' holds: what is left of the lists, what was met. -/
structure CS (w wr : World) (L R : List IL) (g cap : Nat) (mv : Value) (M : List Int) (low : Int) : Prop where
  bel : Below w.heap.size w wr
  own : wr.ownsRow w.heap.size 24 1 (.slice (some ⟨g, 0, none⟩) R.length cap) R.length (rowI R)
  met : wr.ownsRow w.heap.size 3 1 mv M.length (iv M)
  ap : mv.ownBlock ≠ some g
  oks : ∀ j, j < R.length → ILok w (R.getD j default)
  inv : Inv (zl L) (zl R) M low
  len : R.length = L.length
theorem CS.at {w wr : World} {L R : List IL} {g cap : Nat} {mv : Value} {M : List Int} {low : Int} (h : CS w wr L R g cap mv M low) (i : Nat) (hi : i < R.length) :
    wr.cell? ⟨g, i, none⟩ = some (.slice (R.getD i default).a (R.getD i default).l (R.getD i default).c) ∧ wr.frozen? ⟨g, i, none⟩ = false ∧ w.heap.size ≤ g ∧ g < wr.heap.size := by
  obtain ⟨g', cap', e1, h1, h2, h3, h4⟩ := own_at h.own i hi
  cases e1
  exact ⟨h1.trans (rowI_at R i hi), h2 i, h4, h3⟩
theorem CS.below {w wr w' : World} {L R : List IL} {g cap : Nat} {mv : Value} {M : List Int} {low : Int} (h : CS w wr L R g cap mv M low) (hb : Below wr.heap.size wr w') : CS w w' L R g cap mv M low :=
  { h with bel := below_on h.bel hb, own := own_below h.own hb, met := own_below h.met hb }
/-- A list is led on. -/
theorem CS.put {w wr : World} {L R : List IL} {g cap : Nat} {mv : Value} {M : List Int} {low : Int} (h : CS w wr L R g cap mv M low) {i : Nat} (hi : i < R.length) (y : IL) (hy : ILok w y) {M' : List Int} {low' : Int} (hI : Inv (zl L) (zl (R.set i y)) M' low') (hM : M' = M) :
    CS w (wr.setCell ⟨g, i, none⟩ (.slice y.a y.l y.c)) L (R.set i y) g cap mv M' low' := by
  subst hM
  obtain ⟨_, _, hg, _⟩ := h.at i hi
  refine ⟨h.bel.setCell hg _, ?_, own_set h.met _ h.ap, h.ap, fun j hj => ?_, hI, by simpa using h.len⟩
  · have := own_put h.own i hi (.slice y.a y.l y.c)
    rw [List.length_set, rowI_set]
    exact this
  · have hj' : j < R.length := by simpa using hj
    by_cases e : j = i
    · subst e; rw [getD_set_same hi]; exact hy
    · rw [getD_set_other e]; exact h.oks j hj'
theorem CS.raise {w wr : World} {L R : List IL} {g cap : Nat} {mv : Value} {M : List Int} {low : Int} (h : CS w wr L R g cap mv M low) {i : Nat} (hi : i < R.length) {x : Int} {t : List Int} (hx : (R.getD i default).z = x :: t) : CS w wr L R g cap mv M x :=
  { h with inv := h.inv.raise (i := i) (by rw [zl_len]; exact hi) (by rw [zl_at R i hi]; exact hx) }
/-- What is led on, of one list: its inside. -/
theorem led {w wr : World} {L R : List IL} {g cap : Nat} {mv : Value} {M : List Int} {low : Int} (h : CS w wr L R g cap mv M low) {i : Nat} (hi : i < R.length) (y : IL) (hy : y.z = (R.getD i default).z.drop (cb (R.getD i default).z low)) : Inv (zl L) (zl (R.set i y)) M low := by
  have hi' : i < (zl R).length := by rw [zl_len]; exact hi
  have e := zl_at R i hi
  have := h.inv.step (i := i) (k := cb ((zl R).getD i []) low) hi' (cb_split (h.inv.srt i hi') low).1
  rw [zl_set, hy, ← e]
  exact this
theorem srt_at {w wr : World} {L R : List IL} {g cap : Nat} {mv : Value} {M : List Int} {low : Int} (h : CS w wr L R g cap mv M low) (i : Nat) (hi : i < R.length) : Ris (R.getD i default).z := by
  rw [← zl_at R i hi]
  exact h.inv.srt i (by rw [zl_len]; exact hi)
end Go.Proofs.Ythdeifjnfcjaaaa
