/-
  What a file system is behind a page's being put in: its memory alone, no walk.
-/
import Derived.Test.YtgkijokgkaihoaaAsk
import Derived.Deep.AppendLies
namespace Go.Proofs.Ytgkijokgkaihoaa
open Go.RowKit Go.WideMaps Go.Maps
section
variable {w : World} {base p mb : Nat} {fv : Value} {S : St}

/-- Nothing has turned but what a file system writes into: its struct, its map, its rows of pages. -/
structure FsFr (p mb : Nat) (D : DataW Value) (w w' : World) : Prop where
  os : w'.os = w.os
  tape : w'.tape = w.tape
  output : w'.output = w.output
  size : w.heap.size ≤ w'.heap.size
  block : ∀ k, k < w.heap.size → k ≠ p → k ≠ mb → (∀ s, (look D s).ownBlock ≠ some k) → w'.heap[k]? = w.heap[k]?

/-- A page stands behind a file's others. -/
def putSt (S : St) (s : List UInt8) (v' : Value) (q : Value × List UInt8) : St :=
  { S with D := S.D.put (.string s) (.held v'), C := fun t => if t = s then S.C s ++ [q] else S.C t, size := S.size + q.2.length }

theorem look_put_same {D : DataW Value} (hD : IsMap D) (s : List UInt8) (v : Value) : look (D.put (.string s) (.held v)) s = v := by
  unfold look
  rw [atKey_put_same hD (by simp [WideAt.IsKeyLit])]
theorem look_put_other {D : DataW Value} {s t : List UInt8} (h : t ≠ s) (d : DataW Value) : look (D.put (.string s) d) t = look D t := by
  unfold look
  rw [atKey_put_other (by simpa using h)]

theorem row_mono {w : World} {base base' : Nat} {e : TypeId} {size : Nat} {v : Value} {n : Nat} {xs : List Value} (h : w.ownsRow base e size v n xs) (hb : base' ≤ base) : w.ownsRow base' e size v n xs := by
  refine ⟨h.1, ?_⟩
  rcases h.2 with hn | ⟨g, cap, cur, hv, hbb, rest⟩
  · exact .inl hn
  · exact .inr ⟨g, cap, cur, hv, Nat.le_trans hb hbb, rest⟩

theorem put_step {W w' w2 w3 : World} {o : Obj} {s : List UInt8} {g cap gp cp n : Nat} {pg : List UInt8}
    (h : FsAt W base p mb fv S) (hbl : Below W.heap.size W w') (hpl : pg.length = n)
    (hrow' : w'.ownsRow W.heap.size 5 1 (.slice (some ⟨gp, 0, none⟩) n cp) n (pg.map byV))
    (hown2 : w2.ownsRow base 29 1 (.slice (some ⟨g, 0, none⟩) ((S.C s).length + 1) cap) ((S.C s).length + 1) ((S.C s).map Prod.fst ++ [.slice (some ⟨gp, 0, none⟩) n cp]))
    (hgrow : (w'.alloc o).grownBy w2 (look S.D s).ownBlock) (hat : (look S.D s).ownBlock = some g ∨ g = w'.heap.size + 1)
    (hm3 : w3.ownsMap Try.prog 9 heldR mb (Maps.size S.D + 1) (S.D.put (.string s) (.held (.slice (some ⟨g, 0, none⟩) ((S.C s).length + 1) cap))))
    (hg3 : w2.grownBy w3 (some mb)) (h1 : 1 ≤ n) (h2 : n ≤ 1024) (hgr : grw S s = true) (hs1 : S.size + n ≤ 1024 * S.calls) :
    w3.heap[p]? = W.heap[p]? ∧
    FsAt (w3.setCell ⟨p, 2, none⟩ (.int .i64 (S.size + n))) base p mb fv (putSt S s (.slice (some ⟨g, 0, none⟩) ((S.C s).length + 1) cap) (.slice (some ⟨gp, 0, none⟩) n cp, pg)) ∧
    FsFr p mb S.D W (w3.setCell ⟨p, 2, none⟩ (.int .i64 (S.size + n))) := by
  have hpW := (h.lt (.inl rfl : Foot p mb fv S p)).2
  have hmW := (h.lt (.inr (.inl rfl) : Foot p mb fv S mb)).2
  have hsz := hbl.size
  have hsz2 : w'.heap.size + 1 ≤ w2.heap.size := by have := hgrow.size; simpa using this
  have hsz3 := hg3.size
  have T3 : ∀ k, k < W.heap.size → k ≠ mb → (look S.D s).ownBlock ≠ some k → w3.heap[k]? = W.heap[k]? := fun k hk h1 h2 =>
    (hg3.block k (by omega) (by simpa using h1)).trans ((hgrow.block k (by simp; omega) (fun e => h2 e.symm)).trans ((Below.heap_alloc w' o k (by omega)).trans (hbl.block k hk)))
  have hp3 : w3.heap[p]? = W.heap[p]? := T3 p hpW (Ne.symm h.p_ne_mb) (h.p_ne_row s)
  have T : ∀ k, k < W.heap.size → k ≠ p → k ≠ mb → (look S.D s).ownBlock ≠ some k → (w3.setCell ⟨p, 2, none⟩ (.int .i64 (S.size + n))).heap[k]? = W.heap[k]? := fun k hk h1 h2 h3 =>
    (Below.heap_setCell w3 _ _ k h1).trans (T3 k hk h2 h3)
  have hIs : IsMap S.D := h.map.isMap
  have hTi : Tidy S.D := h.map.tidy law9
  have hgmb : g ≠ mb := by
    rcases hat with e | e
    · intro e'; subst e'; exact h.mb_ne_row s e
    · omega
  have hgp : g ≠ p := by
    rcases hat with e | e
    · intro e'; subst e'; exact h.p_ne_row s e
    · omega
  have hgpl := hrow'.lt gp rfl
  have hlook : ∀ k, (look S.D s).ownBlock = some k → k < W.heap.size := fun k hk => ((h.pgs s).1.lt k hk).2
  have Tgp : (w3.setCell ⟨p, 2, none⟩ (.int .i64 (S.size + n))).heap[gp]? = w'.heap[gp]? :=
    (Below.heap_setCell w3 _ _ gp (by show gp ≠ p; omega)).trans ((hg3.block gp (by omega) (by simp; omega)).trans ((hgrow.block gp (by simp; omega) (fun e => by have := hlook gp e.symm; omega)).trans (Below.heap_alloc w' o gp hgpl.2)))
  have hC : Maps.has S.D (.string s) = !(S.C s).isEmpty := h.has s
  refine ⟨hp3, ?_, ?_⟩
  · refine { blk := ?_, bp := h.bp, bm := h.bm, map := ?_, few := ?_, fal := ?_, srt := h.srt, fbig := h.fbig, pgs := ?_, has := ?_, pok := ?_, dis := ?_, tot := ?_, s1 := ?_, c0 := h.c0, ql := h.ql, qh := h.qh }
    · have := setCell_blk (hp3.trans h.blk) 2 (.int .i64 (S.size + n))
      rw [this]
      simp [cellsOf, putSt, hpl]
    · exact map_exact (map_same hm3 (Below.heap_setCell w3 _ _ mb h.p_ne_mb))
    · show Maps.size (S.D.put (.string s) _) ≤ 256
      unfold grw thr at hgr
      rw [← hC] at hgr
      have hle := h.few
      have hsz := Maps.size_put (k := .string s) hTi (DataW.held (.slice (some ⟨g, 0, none⟩) ((S.C s).length + 1) cap))
      rw [hsz]
      cases hh : Maps.has S.D (.string s)
      · simp [hh] at hgr ⊢; omega
      · simp; omega
    · exact row_same h.fal (fun k hk => T k (h.fal.lt k hk).2 (fun e => h.p_ne_fv (e ▸ hk)) (fun e => h.mb_ne_fv (e ▸ hk)) (fun e => h.row_ne_fv s e hk))
    · intro t
      by_cases ht : t = s
      · subst ht
        simp only [putSt, if_true, look_put_same hIs]
        refine ⟨?_, ?_⟩
        · have hr : (w3.setCell ⟨p, 2, none⟩ (.int .i64 (S.size + n))).ownsRow base 29 1 (.slice (some ⟨g, 0, none⟩) ((S.C t).length + 1) cap) ((S.C t).length + 1) ((S.C t).map Prod.fst ++ [.slice (some ⟨gp, 0, none⟩) n cp]) := by
            refine row_same hown2 (fun k hk => ?_)
            have : g = k := by simpa [Value.ownBlock] using hk
            subst this
            exact (Below.heap_setCell w3 _ _ g hgp).trans (hg3.block g (hown2.lt g rfl).2 (by simpa using hgmb))
          simpa using hr
        · intro q hq
          rcases List.mem_append.1 hq with hq | hq
          · exact row_same ((h.pgs t).2 q hq) (fun k hk => T k (((h.pgs t).2 q hq).lt k hk).2 (fun e => h.p_ne_page hq (e ▸ hk)) (fun e => h.mb_ne_page hq (e ▸ hk)) (fun e => h.row_ne_page t e hq hk))
          · simp only [List.mem_singleton] at hq
            subst hq
            have hr2 := row_mono hrow' (show base ≤ W.heap.size by have := h.bp; omega)
            have := row_same (w' := w3.setCell ⟨p, 2, none⟩ (.int .i64 (S.size + n))) hr2 (fun k hk => by
              have : gp = k := by simpa [Value.ownBlock] using hk
              subst this
              exact Tgp)
            simpa [hpl] using this
      · simp only [putSt, if_neg ht, look_put_other ht]
        refine ⟨?_, ?_⟩
        · refine row_same (h.pgs t).1 (fun k hk => T k ((h.pgs t).1.lt k hk).2 (fun e => h.p_ne_row t (e ▸ hk)) (fun e => h.mb_ne_row t (e ▸ hk)) (fun e => ?_))
          rcases h.dis t s ht with hd | hd
          · rw [hd] at hk; cases hk
          · exact hd (hk.trans e.symm)
        · intro q hq
          exact row_same ((h.pgs t).2 q hq) (fun k hk => T k (((h.pgs t).2 q hq).lt k hk).2 (fun e => h.p_ne_page hq (e ▸ hk)) (fun e => h.mb_ne_page hq (e ▸ hk)) (fun e => h.row_ne_page s e hq hk))
    · intro t
      by_cases ht : t = s
      · subst ht
        have := has_put_same (k := .string t) hIs (by simp [WideAt.IsKeyLit]) (DataW.held (.slice (some ⟨g, 0, none⟩) ((S.C t).length + 1) cap))
        simp [putSt, this]
      · simp only [putSt, if_neg ht]
        rw [has_put_other (by simpa using ht), h.has t]
    · intro t
      by_cases ht : t = s
      · subst ht
        simp only [putSt, if_true]
        refine ⟨?_, ?_⟩
        · unfold grw thr at hgr
          cases hc : S.C t
          · simp
          · rw [hc] at hgr
            simp at hgr ⊢
            omega
        · intro q hq
          rcases List.mem_append.1 hq with hq | hq
          · exact (h.pok t).2 q hq
          · simp only [List.mem_singleton] at hq
            subst hq
            exact ⟨by show 1 ≤ pg.length; omega, by show pg.length ≤ 1024; omega⟩
      · simp only [putSt, if_neg ht]
        exact h.pok t
    · have key : ∀ t, t ≠ s → (look S.D t).ownBlock = none ∨ (look S.D t).ownBlock ≠ some g := by
        intro t ht
        rcases h.dis t s ht with hd | hd
        · exact .inl hd
        · right
          intro e
          rcases hat with e' | e'
          · exact hd (e.trans e'.symm)
          · have := ((h.pgs t).1.lt g e).2
            omega
      intro t t' htt
      by_cases ht : t = s
      · subst ht
        have ht' : t' ≠ t := fun e => htt e.symm
        simp only [putSt, look_put_same hIs, look_put_other ht']
        right
        intro e
        rcases key t' ht' with hk | hk
        · rw [hk] at e; simp [Value.ownBlock] at e
        · exact hk e.symm
      · by_cases ht' : t' = s
        · subst ht'
          simp only [putSt, look_put_same hIs, look_put_other ht]
          exact key t ht
        · simp only [putSt, look_put_other ht, look_put_other ht']
          exact h.dis t t' htt
    · have ht := totl_put hTi S.C (putSt S s (Value.slice (some ⟨g, 0, none⟩) ((S.C s).length + 1) cap) (Value.slice (some ⟨gp, 0, none⟩) n cp, pg)).C s (DataW.held (Value.slice (some ⟨g, 0, none⟩) ((S.C s).length + 1) cap)) hC (fun t ht => by simp only [putSt, if_neg ht])
      have e : (putSt S s (Value.slice (some ⟨g, 0, none⟩) ((S.C s).length + 1) cap) (Value.slice (some ⟨gp, 0, none⟩) n cp, pg)).C s = S.C s ++ [(Value.slice (some ⟨gp, 0, none⟩) n cp, pg)] := by simp only [putSt, if_true]
      rw [e, bys_append, ← h.tot] at ht
      refine Eq.trans ?_ ht.symm
      simp only [putSt, bys]
      omega
    · show S.size + (pg.length : Int) ≤ 1024 * S.calls
      omega
  · refine ⟨hg3.os.trans (hgrow.os.trans hbl.os), hg3.tape.trans (hgrow.tape.trans hbl.tape), hg3.output.trans (hgrow.output.trans hbl.output), ?_, fun k hk h1 h2 h3 => T k hk h1 h2 (h3 s)⟩
    simp [World.setCell]; omega
end
end Go.Proofs.Ytgkijokgkaihoaa
