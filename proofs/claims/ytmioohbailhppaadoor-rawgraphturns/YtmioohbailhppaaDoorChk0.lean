/-
  The first record that may not be, as a function of what is handed in; what Check keeps in memory.
-/
import Derived.Test.YtmioohbailhppaaDoorRec
import Derived.Test.YtmioohbailhppaaDoorCty
namespace Go.Proofs.YtmioohbailhppaaDoor
open Go.RowKit Go.Sort
set_option linter.unusedSimpArgs false
set_option linter.unusedVariables false

/-- The first place below n at which something is not 0. -/
def firstBad (f : Nat → Int) (n : Nat) : Option Nat := (List.range n).find? (fun i => decide (¬ f i = 0))
theorem firstBad_none {f : Nat → Int} {n : Nat} (h : ∀ k, k < n → f k = 0) : firstBad f n = none := by
  rw [firstBad, List.find?_eq_none]
  intro k hk
  simp at hk
  simp [h k hk]
theorem firstBad_some {f : Nat → Int} {n j : Nat} (hj : j < n) (h : ∀ k, k < j → f k = 0) (hf : ¬ f j = 0) : firstBad f n = some j := by
  unfold firstBad
  induction n with
  | zero => omega
  | succ n ih =>
    rw [List.range_succ, List.find?_append]
    by_cases e : j = n
    · subst e
      have := firstBad_none h
      unfold firstBad at this
      rw [this]
      simp [hf]
    · rw [ih (by omega)]
      rfl
theorem firstBad_inv {f : Nat → Int} {n j : Nat} (h : firstBad f n = some j) : j < n ∧ (∀ k, k < j → f k = 0) ∧ ¬ f j = 0 := by
  by_cases ha : ∀ k, k < n → f k = 0
  · rw [firstBad_none ha] at h; cases h
  · have hm : ∃ k, k < n ∧ ¬ f k = 0 := by
      apply Classical.byContradiction
      intro hc
      exact ha fun k hk => Classical.byContradiction fun hf => hc ⟨k, hk, hf⟩
    have key : ∀ m, (∃ k, k < m ∧ ¬ f k = 0) → ∃ k, k < m ∧ (∀ i, i < k → f i = 0) ∧ ¬ f k = 0 := by
      intro m
      induction m with
      | zero => rintro ⟨k, hk, _⟩; omega
      | succ m ih =>
        rintro ⟨k, hk, hf⟩
        by_cases hb : ∃ k, k < m ∧ ¬ f k = 0
        · obtain ⟨k', h1, h2, h3⟩ := ih hb
          exact ⟨k', by omega, h2, h3⟩
        · have hall : ∀ i, i < m → f i = 0 := fun i hi => Classical.byContradiction fun hc => hb ⟨i, hi, hc⟩
          have : k = m := by
            rcases Nat.lt_or_ge k m with h' | h'
            · exact absurd (hall k h') hf
            · omega
          subst this
          exact ⟨k, by omega, hall, hf⟩
    obtain ⟨k, h1, h2, h3⟩ := key n hm
    rw [firstBad_some h1 h2 h3] at h
    cases h
    exact ⟨h1, h2, h3⟩
theorem firstBad_all {f : Nat → Int} {n : Nat} (h : firstBad f n = none) : ∀ k, k < n → f k = 0 := by
  intro k hk
  rw [firstBad, List.find?_eq_none] at h
  simpa using h k (by simpa using hk)

/-- A graph as it is handed in. -/
structure RW where
  nt : List TD
  et : List TD
  nd : List ND
  ed : List ED
/-- The IDs of the first nodes, of the first edges. -/
def nIds (r : RW) (k : Nat) : List Int := ((r.nd.take k).map (·.id)).reverse
def eIds (r : RW) (k : Nat) : List Int := ((r.ed.take k).map (·.id)).reverse
def nErr (r : RW) (k : Nat) : Int := nodeErr r.nt (nIds r k) (r.nd.getD k default)
def eErr (r : RW) (k : Nat) : Int := edgeErr r.et (eIds r k) (nIds r r.nd.length) (r.ed.getD k default)
/-- The first record that may not be: its part, its place, why; zeros: there is none. -/
def chk (r : RW) : Int × Int × Int :=
  match firstBad (typeErr r.nt) r.nt.length with
  | some j => (1, j, typeErr r.nt j)
  | none => match firstBad (typeErr r.et) r.et.length with
    | some j => (2, j, typeErr r.et j)
    | none => match firstBad (nErr r) r.nd.length with
      | some j => (3, j, nErr r j)
      | none => match firstBad (eErr r) r.ed.length with
        | some j => (4, j, eErr r j)
        | none => (0, 0, 0)
theorem nIds_succ (r : RW) (k : Nat) (h : k < r.nd.length) : nIds r (k + 1) = (r.nd.getD k default).id :: nIds r k := by
  unfold nIds
  rw [List.take_succ_eq_append_getElem h, List.map_append, List.reverse_append]
  simp only [List.getD, List.getElem?_eq_getElem h]
  rfl
theorem eIds_succ (r : RW) (k : Nat) (h : k < r.ed.length) : eIds r (k + 1) = (r.ed.getD k default).id :: eIds r k := by
  unfold eIds
  rw [List.take_succ_eq_append_getElem h, List.map_append, List.reverse_append]
  simp only [List.getD, List.getElem?_eq_getElem h]
  rfl
theorem few_of (L : List TD) (h : ∀ k, k < L.length → typeErr L k = 0) : Few L := by
  intro i hi
  have := h i hi
  unfold typeErr at this
  split at this
  · omega
  split at this
  · omega
  split at this
  · omega
  split at this
  · omega
  · omega
theorem node_zero {L : List TD} {ids : List Int} {x : ND} (h : nodeErr L ids x = 0) : takeErr L ids x.id x.lab = 0 := by
  unfold nodeErr at h
  split at h
  · assumption
  · assumption
theorem edge_zero {L : List TD} {ids nids : List Int} {x : ED} (h : edgeErr L ids nids x = 0) : takeErr L ids x.id x.lab = 0 := by
  unfold edgeErr at h
  split at h
  · assumption
  · assumption

/-- What Check keeps in memory. -/
structure CK (w0 wr : World) (r0 r1 r2 r3 : Value) (sN mN sE mE : Nat) (a1 : Option Addr) (n1 c1 : Nat) (a2 : Option Addr) (n2 c2 : Nat) (nids eids : List Int) (pt at_ : Int) : Prop where
  bel : Below w0.heap.size w0 wr
  r0 : wr.cell? ⟨w0.heap.size, 0, none⟩ = some r0
  r1 : wr.cell? ⟨w0.heap.size, 1, none⟩ = some r1
  r2 : wr.cell? ⟨w0.heap.size, 2, none⟩ = some r2
  r3 : wr.cell? ⟨w0.heap.size, 3, none⟩ = some r3
  p0 : wr.cell? ⟨w0.heap.size + 1, 0, none⟩ = some (.int .i64 0)
  p1 : wr.cell? ⟨w0.heap.size + 1, 1, none⟩ = some (.int .i64 0)
  pf : ∀ j, wr.frozen? ⟨w0.heap.size + 1, j, none⟩ = false
  t0 : wr.cell? ⟨w0.heap.size + 2, 0, none⟩ = some (.int .i64 pt)
  t1 : wr.cell? ⟨w0.heap.size + 2, 1, none⟩ = some (.int .i64 at_)
  tf : ∀ j, wr.frozen? ⟨w0.heap.size + 2, j, none⟩ = false
  sn : SeenAt wr sN mN a1 n1 c1 nids
  se : SeenAt wr sE mE a2 n2 c2 eids
  gN : w0.heap.size + 2 < mN
  gE : w0.heap.size + 2 < mE
  hN : w0.heap.size + 2 < sN
  hE : w0.heap.size + 2 < sE
  n1 : sN ≠ mN
  n2 : sE ≠ mE
  n3 : mN ≠ mE
  n4 : sN ≠ mE
  n5 : sE ≠ mN
theorem frozen_of_block {w w' : World} {a : Addr} (h : w'.heap[a.block]? = w.heap[a.block]?) : w'.frozen? a = w.frozen? a := by
  simp [World.frozen?, h]
section
variable {w0 wr w' : World} {r0 r1 r2 r3 : Value} {sN mN sE mE : Nat} {a1 : Option Addr} {n1 c1 : Nat} {a2 : Option Addr} {n2 c2 : Nat} {nids eids nids' eids' : List Int} {pt at_ : Int}
theorem CK.only {S : Nat → Prop} (h : CK w0 wr r0 r1 r2 r3 sN mN sE mE a1 n1 c1 a2 n2 c2 nids eids pt at_) (hO : Only S wr w') (hS : ∀ k, k ≤ w0.heap.size + 2 → ¬ S k) (hn : SeenAt w' sN mN a1 n1 c1 nids') (he : SeenAt w' sE mE a2 n2 c2 eids') : CK w0 w' r0 r1 r2 r3 sN mN sE mE a1 n1 c1 a2 n2 c2 nids' eids' pt at_ := by
  have hlt : ∀ {k : Nat}, k ≤ w0.heap.size + 2 → k < wr.heap.size := fun {k} hk => by
    have := World.block_lt_of_cell? _ _ h.t0
    simp at this
    omega
  have hb : ∀ k, k ≤ w0.heap.size + 2 → w'.heap[k]? = wr.heap[k]? := fun k hk => hO.block k (hlt hk) (hS k hk)
  have hc : ∀ k j, k ≤ w0.heap.size + 2 → w'.cell? ⟨k, j, none⟩ = wr.cell? ⟨k, j, none⟩ := fun k j hk => cell_of_block (a := ⟨k, j, none⟩) (hb k hk)
  have hf : ∀ k j, k ≤ w0.heap.size + 2 → w'.frozen? ⟨k, j, none⟩ = wr.frozen? ⟨k, j, none⟩ := fun k j hk => frozen_of_block (a := ⟨k, j, none⟩) (hb k hk)
  exact { h with
    bel := h.bel.trans (hO.below h.bel.size (fun k hs => by rcases Nat.lt_or_ge k w0.heap.size with h' | h'; exact absurd hs (hS k (by omega)); exact h'))
    r0 := (hc _ _ (by omega)).trans h.r0
    r1 := (hc _ _ (by omega)).trans h.r1
    r2 := (hc _ _ (by omega)).trans h.r2
    r3 := (hc _ _ (by omega)).trans h.r3
    p0 := (hc _ _ (by omega)).trans h.p0
    p1 := (hc _ _ (by omega)).trans h.p1
    pf := fun j => (hf _ _ (by omega)).trans (h.pf j)
    t0 := (hc _ _ (by omega)).trans h.t0
    t1 := (hc _ _ (by omega)).trans h.t1
    tf := fun j => (hf _ _ (by omega)).trans (h.tf j)
    sn := hn
    se := he }
theorem CK.below (h : CK w0 wr r0 r1 r2 r3 sN mN sE mE a1 n1 c1 a2 n2 c2 nids eids pt at_) (hb : Below wr.heap.size wr w') : CK w0 w' r0 r1 r2 r3 sN mN sE mE a1 n1 c1 a2 n2 c2 nids eids pt at_ :=
  h.only (S := fun _ => False) (Below.only _ hb) (fun _ _ h => h) (h.sn.below hb) (h.se.below hb)
theorem CK.takeN (h : CK w0 wr r0 r1 r2 r3 sN mN sE mE a1 n1 c1 a2 n2 c2 nids eids pt at_) (hO : Only (fun k => k = mN) wr w') (hs : SetAt w' mN nids') : CK w0 w' r0 r1 r2 r3 sN mN sE mE a1 n1 c1 a2 n2 c2 nids' eids pt at_ :=
  h.only hO (fun k hk e => by have := h.gN; omega) (h.sn.with hO h.n1 hs) (h.se.only hO h.n5 (fun e => h.n3 e.symm))
theorem CK.takeE (h : CK w0 wr r0 r1 r2 r3 sN mN sE mE a1 n1 c1 a2 n2 c2 nids eids pt at_) (hO : Only (fun k => k = mE) wr w') (hs : SetAt w' mE eids') : CK w0 w' r0 r1 r2 r3 sN mN sE mE a1 n1 c1 a2 n2 c2 nids eids' pt at_ :=
  h.only hO (fun k hk e => by have := h.gE; omega) (h.sn.only hO h.n4 h.n3) (h.se.with hO h.n2 hs)
theorem CK.place (h : CK w0 wr r0 r1 r2 r3 sN mN sE mE a1 n1 c1 a2 n2 c2 nids eids pt at_) (p q : Int) : CK w0 ((wr.setCell ⟨w0.heap.size + 2, 0, none⟩ (.int .i64 p)).setCell ⟨w0.heap.size + 2, 1, none⟩ (.int .i64 q)) r0 r1 r2 r3 sN mN sE mE a1 n1 c1 a2 n2 c2 nids eids p q := by
  have hO : Only (fun k => k = w0.heap.size + 2) wr ((wr.setCell ⟨w0.heap.size + 2, 0, none⟩ (.int .i64 p)).setCell ⟨w0.heap.size + 2, 1, none⟩ (.int .i64 q)) := ((Only.refl (fun k => k = w0.heap.size + 2) wr).setCell (p := ⟨w0.heap.size + 2, 0, none⟩) (fun _ => rfl) _).setCell (p := ⟨w0.heap.size + 2, 1, none⟩) (fun _ => rfl) _
  have h1 := h.gN
  have h2 := h.gE
  have h3 := h.hN
  have h4 := h.hE
  have hlt : ∀ {k : Nat}, k ≤ w0.heap.size + 2 → k < wr.heap.size := fun {k} hk => by
    have := World.block_lt_of_cell? _ _ h.t0
    simp at this
    omega
  have hb : ∀ k, k < w0.heap.size + 2 → ((wr.setCell ⟨w0.heap.size + 2, 0, none⟩ (.int .i64 p)).setCell ⟨w0.heap.size + 2, 1, none⟩ (.int .i64 q)).heap[k]? = wr.heap[k]? := fun k hk => hO.block k (hlt (by omega)) (by omega)
  have hc : ∀ k j, k < w0.heap.size + 2 → ((wr.setCell ⟨w0.heap.size + 2, 0, none⟩ (.int .i64 p)).setCell ⟨w0.heap.size + 2, 1, none⟩ (.int .i64 q)).cell? ⟨k, j, none⟩ = wr.cell? ⟨k, j, none⟩ := fun k j hk => cell_of_block (a := ⟨k, j, none⟩) (hb k hk)
  have hf : ∀ k j, k < w0.heap.size + 2 → ((wr.setCell ⟨w0.heap.size + 2, 0, none⟩ (.int .i64 p)).setCell ⟨w0.heap.size + 2, 1, none⟩ (.int .i64 q)).frozen? ⟨k, j, none⟩ = wr.frozen? ⟨k, j, none⟩ := fun k j hk => frozen_of_block (a := ⟨k, j, none⟩) (hb k hk)
  have t0' : (wr.setCell ⟨w0.heap.size + 2, 0, none⟩ (.int .i64 p)).cell? ⟨w0.heap.size + 2, 0, none⟩ = some (.int .i64 p) := World.cell?_setCell_same _ _ _ h.t0
  have t1' : (wr.setCell ⟨w0.heap.size + 2, 0, none⟩ (.int .i64 p)).cell? ⟨w0.heap.size + 2, 1, none⟩ = some (.int .i64 at_) := (World.cell?_setCell_other _ _ _ _ (by simp)).trans h.t1
  exact { h with
    bel := h.bel.trans (hO.below h.bel.size (fun k hs => by omega))
    r0 := (hc _ _ (by omega)).trans h.r0
    r1 := (hc _ _ (by omega)).trans h.r1
    r2 := (hc _ _ (by omega)).trans h.r2
    r3 := (hc _ _ (by omega)).trans h.r3
    p0 := (hc _ _ (by omega)).trans h.p0
    p1 := (hc _ _ (by omega)).trans h.p1
    pf := fun j => (hf _ _ (by omega)).trans (h.pf j)
    t0 := (World.cell?_setCell_other _ _ _ _ (by simp)).trans t0'
    t1 := World.cell?_setCell_same _ _ _ t1'
    tf := fun j => by simpa using h.tf j
    sn := h.sn.only hO (by omega) (by omega)
    se := h.se.only hO (by omega) (by omega) }
end
end Go.Proofs.YtmioohbailhppaaDoor
