/-
  Check as a function: a node with an ID that is there already; an edge with an end that is not there.
-/
import Derived.Test.YtmioohbailhppaaDoorPur
namespace Go.Proofs.YtmioohbailhppaaDoor
open Go.RowKit
set_option linter.unusedSimpArgs false
set_option linter.unusedVariables false

/-- An ID of a graph's nodes is among them. -/
theorem id_mem (r : RW) (k : Nat) (h : k < r.nd.length) : (r.nd.getD k default).id ∈ nIds r r.nd.length := by
  unfold nIds
  rw [List.take_length, List.mem_reverse, List.mem_map]
  refine ⟨r.nd[k], List.getElem_mem h, ?_⟩
  simp [List.getD, List.getElem?_eq_getElem h]
theorem ids_low (r : RW) (h : firstBad (nErr r) r.nd.length = none) : ∀ z ∈ nIds r r.nd.length, 0 ≤ z ∧ z ≤ 1099511627776 := by
  intro z hz
  unfold nIds at hz
  rw [List.take_length, List.mem_reverse, List.mem_map] at hz
  obtain ⟨x, hx, rfl⟩ := hz
  obtain ⟨k, hk, rfl⟩ := List.mem_iff_getElem.1 hx
  have := take_zero (node_zero (firstBad_all h k hk))
  have e : r.nd.getD k default = r.nd[k] := by simp [List.getD, List.getElem?_eq_getElem hk]
  rw [e] at this
  exact ⟨this.1, this.2.1⟩
/-- A node again. -/
theorem chk_again (r : RW) (k : Nat) (hk : k < r.nd.length) (h : (chk r).2.2 = 0) : chk (moreN r (r.nd.getD k default)) = (3, (r.nd.length : Int), 42) := by
  obtain ⟨h1, h2, h3, h4, _⟩ := chk_ok h
  have hl : (moreN r (r.nd.getD k default)).nd.length = r.nd.length + 1 := by simp [moreN]
  have he : nErr (moreN r (r.nd.getD k default)) r.nd.length = 42 := by
    unfold nErr nodeErr
    rw [nIds_moreN _ _ _ (Nat.le_refl _), show (moreN r (r.nd.getD k default)).nd.getD r.nd.length default = r.nd.getD k default from getD_last _ _]
    have hid := id_mem r k hk
    have hlo := ids_low r h3 _ hid
    have ht : takeErr (moreN r (r.nd.getD k default)).nt (nIds r r.nd.length) (r.nd.getD k default).id (r.nd.getD k default).lab = 42 := by
      unfold takeErr
      rw [if_neg (by omega), if_pos hid]
    rw [ht, if_neg (by decide)]
  have hb : firstBad (nErr (moreN r (r.nd.getD k default))) (r.nd.length + 1) = some r.nd.length := firstBad_some (by omega) (fun i hi => by rw [nErr_moreN r _ i hi]; exact firstBad_all h3 i hi) (by rw [he]; decide)
  unfold chk
  rw [show (moreN r (r.nd.getD k default)).nt = r.nt from rfl, show (moreN r (r.nd.getD k default)).et = r.et from rfl, hl]
  simp only [h1, h2, hb, he]
/-- An edge whose end is none. -/
def lostE (y : ED) : ED := { y with tt := -1 }
def lost (r : RW) (k : Nat) : RW := { r with ed := r.ed.set k (lostE (r.ed.getD k default)) }
theorem chk_lost (r : RW) (k : Nat) (hk : k < r.ed.length) (h : (chk r).2.2 = 0) : chk (lost r k) = (4, (k : Int), 46) := by
  obtain ⟨h1, h2, h3, h4, _⟩ := chk_ok h
  have hc := chk_of (r := lost r k) h1 h2 h3
  have hget : ∀ i, i < r.ed.length → i ≠ k → (lost r k).ed.getD i default = r.ed.getD i default := fun i hi hn => by
    simp [lost, List.getD, List.getElem?_set, Ne.symm hn]
  have hgk : (lost r k).ed.getD k default = lostE (r.ed.getD k default) := by
    simp [lost, List.getD, List.getElem?_set, hk]
  have hids : ∀ i, i ≤ k → eIds (lost r k) i = eIds r i := fun i hi => by
    unfold eIds lost
    simp only
    rw [List.take_set_of_le hi]
  have hn : ∀ i, nIds (lost r k) i = nIds r i := fun i => rfl
  have e0 : ∀ i, i < k → eErr (lost r k) i = 0 := fun i hi => by
    have := firstBad_all h4 i (by omega)
    unfold eErr at this ⊢
    rw [hids i (by omega), hget i (by omega) (by omega), hn]
    exact this
  have ek : eErr (lost r k) k = 46 := by
    have h0 := edge_zero (firstBad_all h4 k hk)
    unfold eErr edgeErr
    rw [hids k (Nat.le_refl _), hgk, hn]
    have h0' : takeErr (lost r k).et (eIds r k) (lostE (r.ed.getD k default)).id (lostE (r.ed.getD k default)).lab = 0 := h0
    rw [if_pos h0', if_neg]
    rintro ⟨_, hm⟩
    have := ids_low r h3 _ hm
    simp [lostE] at this
  rw [hc, show (lost r k).ed.length = r.ed.length by simp [lost], firstBad_some hk e0 (by rw [ek]; decide)]
  simp only [ek]
end Go.Proofs.YtmioohbailhppaaDoor
