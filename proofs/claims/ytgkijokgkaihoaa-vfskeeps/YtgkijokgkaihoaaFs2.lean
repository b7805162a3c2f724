/-
  What keeps a file system in memory what it is.
-/
import Derived.Test.YtgkijokgkaihoaaFs
import Derived.Deep.QuietTactic
namespace Go.Proofs.Ytgkijokgkaihoaa
open Go.RowKit Go.Maps

theorem row_blk {w : World} {base : Nat} {e : TypeId} {size : Nat} {v : Value} {n : Nat} {xs : List Value} (h : w.ownsRow base e size v n xs) {k : Nat} (hk : v.ownBlock = some k) : ∃ cur, w.heap[k]? = some (.cells cur e (0, 0)) := by
  rcases h.2 with ⟨rfl, _⟩ | ⟨g, cap, cur, rfl, _, hg, _⟩
  · simp [Value.ownBlock] at hk
  · simp [Value.ownBlock] at hk
    subst hk
    exact ⟨cur, hg⟩

theorem row_same {w w' : World} {base : Nat} {e : TypeId} {size : Nat} {v : Value} {n : Nat} {xs : List Value} (h : w.ownsRow base e size v n xs) (hb : ∀ k, v.ownBlock = some k → w'.heap[k]? = w.heap[k]?) : w'.ownsRow base e size v n xs := by
  refine ⟨h.1, ?_⟩
  rcases h.2 with hn | ⟨g, cap, cur, rfl, hbb, hg, rest⟩
  · exact .inl hn
  · exact .inr ⟨g, cap, cur, rfl, hbb, by rw [hb g rfl]; exact hg, rest⟩

theorem map_same {w w' : World} {P : Program} {k : TypeId} {H : Type} {R : Value → Option (DataW H × List MemPlace)} {b n : Nat} {D : DataW H} (h : w.ownsMap P k R b n D) (hb : w'.heap[b]? = w.heap[b]?) : w'.ownsMap P k R b n D := by
  obtain ⟨es, clock, hm, r⟩ := h
  exact ⟨es, clock, hb.trans hm, r⟩

theorem map_exact {w : World} {P : Program} {k : TypeId} {H : Type} {R : Value → Option (DataW H × List MemPlace)} {b n : Nat} {D : DataW H} (h : w.ownsMap P k R b n D) : w.ownsMap P k R b (Maps.size D) D := by
  obtain ⟨es, clock, hm, hf, hs, rfl⟩ := h
  refine ⟨es, clock, hm, hf, ?_, rfl⟩
  simp [Maps.size, length_sorted]

theorem map_blk {w : World} {P : Program} {k : TypeId} {H : Type} {R : Value → Option (DataW H × List MemPlace)} {b n : Nat} {D : DataW H} (h : w.ownsMap P k R b n D) : ∃ es clock, w.heap[b]? = some (.map es clock) := by
  obtain ⟨es, clock, hm, _⟩ := h
  exact ⟨es, clock, hm⟩

/-- The blocks that a file system lies in. -/
def Foot (p mb : Nat) (fv : Value) (S : St) (k : Nat) : Prop :=
  k = p ∨ k = mb ∨ fv.ownBlock = some k ∨ (∃ s, (look S.D s).ownBlock = some k) ∨ ∃ s, ∃ q ∈ S.C s, q.1.ownBlock = some k

section
variable {w w' : World} {base p mb : Nat} {fv : Value} {S : St}

theorem FsAt.same (h : FsAt w base p mb fv S) (hb : ∀ k, Foot p mb fv S k → w'.heap[k]? = w.heap[k]?) : FsAt w' base p mb fv S :=
  { h with
    blk := (hb p (.inl rfl)).trans h.blk
    map := map_same h.map (hb mb (.inr (.inl rfl)))
    fal := row_same h.fal (fun k hk => hb k (.inr (.inr (.inl hk))))
    pgs := fun s => ⟨row_same (h.pgs s).1 (fun k hk => hb k (.inr (.inr (.inr (.inl ⟨s, hk⟩))))), fun q hq => row_same ((h.pgs s).2 q hq) (fun k hk => hb k (.inr (.inr (.inr (.inr ⟨s, q, hq, hk⟩)))))⟩ }

theorem FsAt.lt (h : FsAt w base p mb fv S) {k : Nat} (hk : Foot p mb fv S k) : base ≤ k ∧ k < w.heap.size := by
  rcases hk with rfl | rfl | hk | ⟨s, hk⟩ | ⟨s, q, hq, hk⟩
  · exact ⟨h.bp, (Array.getElem?_eq_some_iff.1 h.blk).1⟩
  · exact ⟨h.bm, h.map.lt⟩
  · exact h.fal.lt k hk
  · exact (h.pgs s).1.lt k hk
  · exact ((h.pgs s).2 q hq).lt k hk

theorem FsAt.kept (h : FsAt w base p mb fv S) (hb : ∀ k, k < w.heap.size → w'.heap[k]? = w.heap[k]?) : FsAt w' base p mb fv S :=
  h.same fun k hk => hb k (h.lt hk).2

theorem FsAt.below (h : FsAt w base p mb fv S) (hb : Below w.heap.size w w') : FsAt w' base p mb fv S := h.kept hb.block

theorem FsAt.alloc (h : FsAt w base p mb fv S) (o : Obj) : FsAt (w.alloc o) base p mb fv S := h.kept fun k hk => Below.heap_alloc w o k hk

theorem FsAt.p_ne_mb (h : FsAt w base p mb fv S) : mb ≠ p := by
  intro e
  obtain ⟨es, clock, hm⟩ := map_blk h.map
  rw [e, h.blk] at hm
  cases hm

theorem FsAt.p_ne_row (h : FsAt w base p mb fv S) (s : List UInt8) : (look S.D s).ownBlock ≠ some p := by
  intro e
  obtain ⟨cur, hc⟩ := row_blk (h.pgs s).1 e
  rw [h.blk] at hc
  simp at hc

theorem FsAt.p_ne_page (h : FsAt w base p mb fv S) {s : List UInt8} {q} (hq : q ∈ S.C s) : q.1.ownBlock ≠ some p := by
  intro e
  obtain ⟨cur, hc⟩ := row_blk ((h.pgs s).2 q hq) e
  rw [h.blk] at hc
  simp at hc

theorem FsAt.p_ne_fv (h : FsAt w base p mb fv S) : fv.ownBlock ≠ some p := by
  intro e
  obtain ⟨cur, hc⟩ := row_blk h.fal e
  rw [h.blk] at hc
  simp at hc

theorem FsAt.mb_ne_row (h : FsAt w base p mb fv S) (s : List UInt8) : (look S.D s).ownBlock ≠ some mb := by
  intro e
  obtain ⟨cur, hc⟩ := row_blk (h.pgs s).1 e
  obtain ⟨es, clock, hm⟩ := map_blk h.map
  rw [hm] at hc
  simp at hc

theorem FsAt.mb_ne_page (h : FsAt w base p mb fv S) {s : List UInt8} {q} (hq : q ∈ S.C s) : q.1.ownBlock ≠ some mb := by
  intro e
  obtain ⟨cur, hc⟩ := row_blk ((h.pgs s).2 q hq) e
  obtain ⟨es, clock, hm⟩ := map_blk h.map
  rw [hm] at hc
  simp at hc

theorem FsAt.mb_ne_fv (h : FsAt w base p mb fv S) : fv.ownBlock ≠ some mb := by
  intro e
  obtain ⟨cur, hc⟩ := row_blk h.fal e
  obtain ⟨es, clock, hm⟩ := map_blk h.map
  rw [hm] at hc
  simp at hc

theorem FsAt.row_ne_page (h : FsAt w base p mb fv S) (s : List UInt8) {k : Nat} (hk : (look S.D s).ownBlock = some k) {s' : List UInt8} {q} (hq : q ∈ S.C s') : q.1.ownBlock ≠ some k := by
  intro e
  obtain ⟨cur, hc⟩ := row_blk ((h.pgs s').2 q hq) e
  obtain ⟨cur', hc'⟩ := row_blk (h.pgs s).1 hk
  rw [hc] at hc'
  simp at hc'

theorem FsAt.row_ne_fv (h : FsAt w base p mb fv S) (s : List UInt8) {k : Nat} (hk : (look S.D s).ownBlock = some k) : fv.ownBlock ≠ some k := by
  intro e
  obtain ⟨cur, hc⟩ := row_blk h.fal e
  obtain ⟨cur', hc'⟩ := row_blk (h.pgs s).1 hk
  rw [hc] at hc'
  simp at hc'

theorem FsAt.size_nonneg (h : FsAt w base p mb fv S) : 0 ≤ S.size := by rw [h.tot]; exact totl_nonneg _ _

/-- The struct's cells, as the walk asks for them. -/
theorem FsAt.cell (h : FsAt w base p mb fv S) (i : Nat) : w.cell? ⟨p, i, none⟩ = (cellsOf mb fv S)[i]? := by simp [World.cell?, h.blk]
theorem FsAt.free (h : FsAt w base p mb fv S) (i : Nat) : w.frozen? ⟨p, i, none⟩ = false := by simp [World.frozen?, h.blk]

/-- Nothing has turned but the struct's own block. -/
structure OnlyP (p : Nat) (w w' : World) : Prop where
  os : w'.os = w.os
  tape : w'.tape = w.tape
  output : w'.output = w.output
  size : w'.heap.size = w.heap.size
  block : ∀ k, k ≠ p → w'.heap[k]? = w.heap[k]?

theorem OnlyP.refl (p : Nat) (w : World) : OnlyP p w w := ⟨rfl, rfl, rfl, rfl, fun _ _ => rfl⟩
theorem OnlyP.trans {a b c : World} (h : OnlyP p a b) (k : OnlyP p b c) : OnlyP p a c :=
  ⟨k.os.trans h.os, k.tape.trans h.tape, k.output.trans h.output, k.size.trans h.size, fun i hi => (k.block i hi).trans (h.block i hi)⟩
theorem OnlyP.drewN (h : OnlyP p w w') (n : Nat) : OnlyP p w (w'.drewN n) := ⟨h.os, h.tape, h.output, h.size, h.block⟩
theorem OnlyP.setCell (h : OnlyP p w w') (i : Nat) (v : Value) : OnlyP p w (w'.setCell ⟨p, i, none⟩ v) :=
  h.trans ⟨rfl, rfl, rfl, by simp [World.setCell], fun k hk => Below.heap_setCell w' _ _ k hk⟩
theorem setCell_blk {cs : Array Value} {t : TypeId} {fr : Nat × Nat} (h : w.heap[p]? = some (.cells cs t fr)) (i : Nat) (v : Value) : (w.setCell ⟨p, i, none⟩ v).heap[p]? = some (.cells (cs.setIfInBounds i v) t fr) := by
  simp [World.setCell, Array.getElem?_modify, h]
theorem OnlyP.below {B : Nat} (h : OnlyP p w w') (hB : B ≤ p) : Below B w w' := ⟨h.os, h.tape, h.output, by rw [h.size]; exact Nat.le_refl _, fun k hk => h.block k (by omega)⟩

/-- The struct's cells turned: what they say then. -/
theorem FsAt.turn (h : FsAt w base p mb fv S) (hp : OnlyP p w w') (size calls : Int) (failed : Bool)
    (hb : w'.heap[p]? = some (.cells (cellsOf mb fv { S with size := size, calls := calls, failed := failed }) 54 (0, 0)))
    (ht : size = totl S.D S.C) (h1 : size ≤ 1024 * calls) (h0 : 0 ≤ calls) :
    FsAt w' base p mb fv { S with size := size, calls := calls, failed := failed } :=
  { h with
    blk := hb
    map := map_same h.map (hp.block mb h.p_ne_mb)
    fal := row_same h.fal (fun k hk => hp.block k (fun e => h.p_ne_fv (e ▸ hk)))
    pgs := fun s => ⟨row_same (h.pgs s).1 (fun k hk => hp.block k (fun e => h.p_ne_row s (e ▸ hk))), fun q hq => row_same ((h.pgs s).2 q hq) (fun k hk => hp.block k (fun e => h.p_ne_page hq (e ▸ hk)))⟩
    tot := ht
    s1 := h1
    c0 := h0 }
end
end Go.Proofs.Ytgkijokgkaihoaa
