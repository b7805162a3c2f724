/-
  Taking a file away: the contract of Delete.
-/
import Derived.Test.YtgkijokgkaihoaaApp
namespace Go.Proofs.Ytgkijokgkaihoaa
open Go.RowKit Go.WideMaps Go.Maps
section
variable {w : World} {base p mb : Nat} {fv : Value} {S : St}

/-- A file is gone, with its bytes. -/
def delSt (S : St) (s : List UInt8) : St :=
  { S with D := S.D.del (.string s), C := fun t => if t = s then [] else S.C t, size := S.size - bys (S.C s) }

theorem look_del_same {D : DataW Value} (s : List UInt8) : look (D.del (.string s)) s = .slice none 0 0 := by
  unfold look
  rw [atKey_del_same]
theorem look_del_other {D : DataW Value} {s t : List UInt8} (h : t ≠ s) : look (D.del (.string s)) t = look D t := by
  unfold look
  rw [atKey_del_other (by simpa using h)]

theorem totl_congr {D : DataW Value} {C C' : List UInt8 → List (Value × List UInt8)} (s : List UInt8) (h : ∀ t, t ≠ s → C' t = C t) : totl (D.del (.string s)) C' = totl (D.del (.string s)) C := by
  cases D <;> try rfl
  rename_i es
  show totE C' (es.filter fun p => !p.1.sameKey (.string s)) = totE C (es.filter fun p => !p.1.sameKey (.string s))
  refine totE_congr _ (fun e he => ?_)
  have hk := (List.mem_filter.1 he).2
  unfold atE
  split
  · rename_i b hb
    rw [hb, sameKey_string] at hk
    rw [h b (by simpa using hk)]
  · rfl

theorem del_step {W w1 w2 : World} {s : List UInt8} {n : Nat} (h : FsAt W base p mb fv S) (ho : OnlyP p W w1)
    (hb : w1.heap[p]? = some (.cells (cellsOf mb fv { S with size := S.size - bys (S.C s) }) 54 (0, 0)))
    (hm2 : w2.ownsMap Try.prog 9 heldR mb n (S.D.del (.string s))) (hg2 : w1.grownBy w2 (some mb)) :
    FsAt w2 base p mb fv (delSt S s) ∧ FsFr p mb S.D W w2 := by
  have hpW := (h.lt (.inl rfl : Foot p mb fv S p)).2
  have hsz := ho.size
  have T : ∀ k, k < W.heap.size → k ≠ p → k ≠ mb → w2.heap[k]? = W.heap[k]? := fun k hk h1 h2 =>
    (hg2.block k (by omega) (by simpa using h2)).trans (ho.block k h1)
  have hTi : Tidy S.D := h.map.tidy law9
  have hC : Maps.has S.D (.string s) = !(S.C s).isEmpty := h.has s
  have htot := totl_del hTi S.C s hC
  have R : ∀ t, w2.ownsRow base 29 1 (look S.D t) (S.C t).length ((S.C t).map Prod.fst) := fun t =>
    row_same (h.pgs t).1 (fun k hk => T k ((h.pgs t).1.lt k hk).2 (fun e => h.p_ne_row t (e ▸ hk)) (fun e => h.mb_ne_row t (e ▸ hk)))
  have hnn := bys_nonneg (S.C s)
  refine ⟨{ blk := ?_, bp := h.bp, bm := h.bm, map := map_exact hm2, few := ?_, fal := ?_, srt := h.srt, fbig := h.fbig, pgs := ?_, has := ?_, pok := ?_, dis := ?_, tot := ?_, s1 := ?_, c0 := h.c0, ql := h.ql, qh := h.qh }, ?_⟩
  · rw [hg2.block p (by omega) (by simpa using Ne.symm h.p_ne_mb), hb]
    rfl
  · have := Maps.size_del (k := .string s) hTi
    have := h.few
    show Maps.size (S.D.del (.string s)) ≤ 256
    omega
  · exact row_same h.fal (fun k hk => T k (h.fal.lt k hk).2 (fun e => h.p_ne_fv (e ▸ hk)) (fun e => h.mb_ne_fv (e ▸ hk)))
  · intro t
    by_cases ht : t = s
    · subst ht
      simp only [delSt, if_true, look_del_same]
      exact ⟨World.ownsRow_nil _ _ _ _, by simp⟩
    · simp only [delSt, if_neg ht, look_del_other ht]
      refine ⟨R t, fun q hq => ?_⟩
      exact row_same ((h.pgs t).2 q hq) (fun k hk => T k (((h.pgs t).2 q hq).lt k hk).2 (fun e => h.p_ne_page hq (e ▸ hk)) (fun e => h.mb_ne_page hq (e ▸ hk)))
  · intro t
    by_cases ht : t = s
    · subst ht
      simp [delSt, has_del_same]
    · simp only [delSt, if_neg ht]
      rw [has_del_other (by simpa using ht), h.has t]
  · intro t
    by_cases ht : t = s
    · subst ht
      simp [delSt]
    · simp only [delSt, if_neg ht]
      exact h.pok t
  · intro t t' htt
    by_cases ht : t = s
    · subst ht
      left
      simp [delSt, look_del_same, Value.ownBlock]
    · by_cases ht' : t' = s
      · subst ht'
        simp only [delSt, look_del_same, look_del_other ht]
        cases hk : (look S.D t).ownBlock
        · exact .inl rfl
        · right; simp [Value.ownBlock]
      · simp only [delSt, look_del_other ht, look_del_other ht']
        exact h.dis t t' htt
  · show S.size - bys (S.C s) = totl (S.D.del (.string s)) (fun t => if t = s then [] else S.C t)
    rw [totl_congr (C := S.C) s (fun t ht => if_neg ht), htot, h.tot]
  · show S.size - bys (S.C s) ≤ 1024 * S.calls
    have := h.s1
    omega
  · exact ⟨hg2.os.trans ho.os, hg2.tape.trans ho.tape, hg2.output.trans ho.output, by have := hg2.size; omega, fun k hk h1 h2 _ => T k hk h1 h2⟩

theorem Delete_none (h : FsAt w base p mb fv S) (s : ByteArray) (hs : s.size ≤ maxLen) (ht : thr S s.data.toList = false) :
    Calls Try.prog 16 #[.pointer (some ⟨p, 0, none⟩), .string s] w fun e w' => e = .returned (.int .i64 15) ∧ w' = w := by
  have c0 : w.cell? ⟨p, 0, none⟩ = some (.map (some mb)) := h.cell 0
  have hl := h.lookupOk s hs
  rw [ht] at hl
  clear ht
  go_enter Try.func16, Try.ntmps16
  go_wp2
  go_ret
  exact ⟨rfl, rfl⟩

theorem row_form {w : World} {base : Nat} {e : TypeId} {size : Nat} {v : Value} {n : Nat} {xs : List Value} (h : w.ownsRow base e size v n xs) : ∃ av cap, v = .slice av n cap := by
  rcases h.2 with ⟨hv, h0⟩ | ⟨g, cap, cur, hv, _⟩
  · exact ⟨none, 0, by rw [hv, h0]⟩
  · exact ⟨_, _, hv⟩
theorem bys_take_le (ps : List (Value × List UInt8)) (k : Nat) : bys (ps.take k) ≤ bys ps := by
  have := bys_append (ps.take k) (ps.drop k)
  rw [List.take_append_drop] at this
  have := bys_nonneg (ps.drop k)
  omega
theorem FsAt.bys_le (h : FsAt w base p mb fv S) (s : List UInt8) : bys (S.C s) ≤ S.size := by
  have := totl_del (h.map.tidy law9) S.C s (h.has s)
  have := totl_nonneg (S.D.del (.string s)) S.C
  have := h.tot
  omega
theorem bys_take_succ (ps : List (Value × List UInt8)) (k : Nat) (hk : k < ps.length) : bys (ps.take (k + 1)) = bys (ps.take k) + (ps[k].2.length : Int) := by
  rw [List.take_succ_eq_append_getElem hk, bys_append]
  simp [bys]

set_option maxRecDepth 100000 in
theorem Delete_ok (h : FsAt w base p mb fv S) (hc : S.calls < 1125899906842624) (s : ByteArray) (hs : s.size ≤ maxLen) (ht : thr S s.data.toList = true) :
    Calls Try.prog 16 #[.pointer (some ⟨p, 0, none⟩), .string s] w fun e w' => e = .returned (.int .i64 0) ∧ FsAt w' base p mb fv (delSt S s.data.toList) ∧ FsFr p mb S.D w w' := by
  have c0 : w.cell? ⟨p, 0, none⟩ = some (.map (some mb)) := h.cell 0
  have hl := h.lookupOk s hs
  rw [ht] at hl
  obtain ⟨hr, hpg⟩ := h.pgs s.data.toList
  have hne : (S.C s.data.toList) ≠ [] := fun e => by simp [thr, e] at ht
  obtain ⟨g, cap, hf⟩ : ∃ g cap, look S.D s.data.toList = .slice (some ⟨g, 0, none⟩) (S.C s.data.toList).length cap := by
    rcases hr.2 with ⟨_, h0⟩ | ⟨g, cap, cur, hv, _⟩
    · exact absurd (List.eq_nil_of_length_eq_zero h0) hne
    · exact ⟨g, cap, hv⟩
  rw [hf] at hl hr
  have hgp : g ≠ p := fun e => h.p_ne_row s.data.toList (by rw [hf, e]; rfl)
  have hnn := bys_nonneg (S.C s.data.toList)
  have hpl := (h.pok s.data.toList).1
  go_enter Try.func16, Try.ntmps16
  go_wp2
  go_loopw [22] (fun i w' => ∃ k : Nat, k ≤ (S.C s.data.toList).length ∧ i = .int .i64 k ∧ OnlyP p w w' ∧ w'.heap[p]? = some (.cells (cellsOf mb fv { S with size := S.size - bys ((S.C s.data.toList).take k) }) 54 (0, 0))) (fun i _ => (S.C s.data.toList).length - (intOf i).toNat)
  case atStart => exact ⟨0, Nat.zero_le _, rfl, OnlyP.refl _ _, by simpa [bys] using h.blk⟩
  case round =>
    obtain ⟨k, hk, rfl, ho, hb⟩ := hrel
    have hc0 : wr.cell? ⟨p, 0, none⟩ = some (.map (some mb)) := by simp [World.cell?, hb, cellsOf]
    by_cases hlt : k < (S.C s.data.toList).length
    · have hc2 : wr.cell? ⟨p, 2, none⟩ = some (.int .i64 (S.size - bys ((S.C s.data.toList).take k))) := by simp [World.cell?, hb, cellsOf]
      have hf2 : wr.frozen? ⟨p, 2, none⟩ = false := by simp [World.frozen?, hb]
      obtain ⟨av, cp, hq⟩ : ∃ av cp, ((S.C s.data.toList)[k]).1 = .slice av ((S.C s.data.toList)[k]).2.length cp := row_form (hpg _ (List.getElem_mem hlt))
      have hcg : wr.cell? ⟨g, k, none⟩ = some (.slice av ((S.C s.data.toList)[k]).2.length cp) := by
        rw [World.cell?_of_block (w := w) (ho.block g hgp), hr.cellAt k (by omega), ← hq]
        simp [List.getElem?_eq_getElem hlt]
      have hsucc := bys_take_succ (S.C s.data.toList) k hlt
      have hle := bys_take_le (S.C s.data.toList) (k + 1)
      have hnn := bys_nonneg ((S.C s.data.toList).take k)
      have hsl := h.bys_le s.data.toList
      have hs1 := h.s1
      have hb1 : bys ((S.C s.data.toList).take k) + (((S.C s.data.toList)[k]).2.length : Int) ≤ S.size := by omega
      have HS : Hid (bys ((S.C s.data.toList).take (k + 1)) = bys ((S.C s.data.toList).take k) + (((S.C s.data.toList)[k]).2.length : Int)) := hsucc
      clear hsucc hle hl hq ht hf hne
      go_wp2
      go_roundw
      case rel =>
        refine ⟨k + 1, by omega, by go_num, ho.setCell 2 _, ?_⟩
        rw [setCell_blk hb 2 _, HS.out]
        simp [cellsOf]
        omega
      case measure => simp [intOf]; omega
    · have hk' : k = (S.C s.data.toList).length := by omega
      subst hk'
      rw [List.take_length] at hb
      have hm1 := map_same h.map (ho.block mb h.p_ne_mb)
      obtain ⟨w2, hrun, hm2, htu⟩ := hm1.drop law9 Try.underlying52 (keyOf_string_mk Try.underlying9 hs) 0
      have hfin := del_step (s := s.data.toList) h ho hb hm2 htu.grown
      clear hm1 hm2 hb
      go_wp2
      go_ret
      exact ⟨rfl, hfin.1, hfin.2⟩
end
end Go.Proofs.Ytgkijokgkaihoaa
