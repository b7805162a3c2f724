/-
  VfsBounds: what is kept from call to call, and the files' being taken away one by one: memory and lists alone.
-/
import Derived.Test.YtgkijokgkaihoaaApp2
import Derived.Test.YtgkijokgkaihoaaNms
namespace Go.Proofs.Ytgkijokgkaihoaa
open Go.RowKit Go.WideMaps Go.Maps
section
variable {w w' : World} {base p mb : Nat} {fv : Value} {S : St}

/-- A row of another kind stays as it is. -/
theorem FsFr.row (hr : FsFr p mb S.D w w') (h : FsAt w base p mb fv S) {b : Nat} {e : TypeId} {sz : Nat} {v : Value} {n : Nat} {xs : List Value} (hx : w.ownsRow b e sz v n xs) (h1 : e ≠ 54) (h2 : e ≠ 29) : w'.ownsRow b e sz v n xs := by
  refine row_same hx (fun k hk => ?_)
  obtain ⟨cur, hc⟩ := row_blk hx hk
  refine hr.block k (hx.lt k hk).2 ?_ ?_ ?_
  · intro e'; subst e'; rw [h.blk] at hc; simp at hc; exact h1 hc.2.symm
  · intro e'; subst e'
    obtain ⟨es, clock, hm⟩ := map_blk h.map
    rw [hm] at hc; cases hc
  · intro s e'
    obtain ⟨cur', hc'⟩ := row_blk (h.pgs s).1 e'
    rw [hc] at hc'; simp at hc'; exact h2 hc'.2

theorem nms_nil (h : FsAt w base p mb fv S) (hn : ∀ t, thr S t = false) : nms S = [] ∧ S.size = 0 := by
  have h1 : nms S = [] := by
    cases hc : nms S with
    | nil => rfl
    | cons t r =>
      have := (nms_mem h t).1 (by rw [hc]; simp)
      rw [hn t] at this; cases this
  refine ⟨h1, ?_⟩
  have hl := nms_len S h
  rw [h1] at hl
  obtain ⟨es, hD, _⟩ := keys_of h
  rw [h.tot, hD]
  rw [hD] at hl
  have : es = [] := List.eq_nil_of_length_eq_zero (by simpa [Maps.size] using hl.symm)
  rw [this]
  rfl

theorem thr_del (s t : List UInt8) : thr (delSt S s) t = (thr S t && decide (t ≠ s)) := by
  unfold thr delSt
  by_cases h : t = s <;> simp [h]

/-- What holds of the file system of this statement from call to call. -/
structure Bnd (S : St) (q : Int) (zs : List Int) (k : Nat) : Prop where
  quota : S.quota = q
  fs : zs = [] → S.fs = []
  failed : zs = [] → S.failed = false
  calls : S.calls ≤ k
  size : S.size ≤ max q 0

theorem Bnd.cnt {q : Int} {zs : List Int} {k : Nat} (h : Bnd S q zs k) : Bnd (cntSt S) q zs (k + 1) :=
  ⟨h.quota, h.fs, fun e => by simp [cntSt, h.failed e, h.fs e, hit], by have := h.calls; simp only [cntSt]; omega, h.size⟩
theorem Bnd.mono {q : Int} {zs : List Int} {k k' : Nat} (h : Bnd S q zs k) (hk : k ≤ k') : Bnd S q zs k' := ⟨h.quota, h.fs, h.failed, by have := h.calls; omega, h.size⟩
theorem Bnd.del {q : Int} {zs : List Int} {k : Nat} (h : Bnd S q zs k) (s : List UInt8) : Bnd (delSt S s) q zs k :=
  ⟨h.quota, h.fs, h.failed, h.calls, by have := h.size; have := bys_nonneg (S.C s); simp only [delSt]; omega⟩
theorem Bnd.put {q : Int} {zs : List Int} {k : Nat} (h : Bnd S q zs k) (s : List UInt8) (v u : Value) (pg : List UInt8) (hq : S.size + pg.length ≤ S.quota) : Bnd (putSt (cntSt S) s v (u, pg)) q zs (k + 1) := by
  have hc := h.cnt
  refine ⟨hc.quota, hc.fs, hc.failed, hc.calls, ?_⟩
  have := h.quota
  simp only [putSt, cntSt]
  omega
/-- Without faults no call fails by one. -/
theorem Bnd.nohit {q : Int} {zs : List Int} {k : Nat} (h : Bnd S q zs k) (hz : zs = []) (x : Int) : hit S.fs x = false := by rw [h.fs hz]; rfl

end
end Go.Proofs.Ytgkijokgkaihoaa
