/-
  A graph that may be: what is said of its records one by one; another order, edges left out; in order.
-/
import Derived.Test.YtmioohbailhppaaDoorPur6
namespace Go.Proofs.YtmioohbailhppaaDoor
open Go.RowKit
set_option linter.unusedSimpArgs false
set_option linter.unusedVariables false

/-- A node, an edge that may be, but for its ID among others. -/
structure OkN (T : List TD) (x : ND) : Prop where
  lo : 0 ≤ x.id
  hi : x.id ≤ 1099511627776
  lab : 0 ≤ labAt T x.lab
  ps : goP (declOf T x.lab) [] x.ps = true
structure OkE (T : List TD) (ids : List Int) (x : ED) : Prop where
  lo : 0 ≤ x.id
  hi : x.id ≤ 1099511627776
  lab : 0 ≤ labAt T x.lab
  fr : x.fr ∈ ids
  tt : x.tt ∈ ids
  ps : goP (declOf T x.lab) [] x.ps = true
structure Fine (r : RW) : Prop where
  nt : ∀ k, k < r.nt.length → typeErr r.nt k = 0
  et : ∀ k, k < r.et.length → typeErr r.et k = 0
  nn : (r.nd.map (fun x => x.id)).Nodup
  en : (r.ed.map (fun x => x.id)).Nodup
  ns : ∀ x ∈ r.nd, OkN r.nt x
  es : ∀ x ∈ r.ed, OkE r.et (r.nd.map (fun x => x.id)) x
theorem propsErr_zero {D : List PD} {L : List PV} (h : propsErr D L = 0) : goP D [] L = true := by
  unfold propsErr at h
  split at h
  · assumption
  · omega
theorem getD_get {α : Type} [Inhabited α] {L : List α} {j : Nat} (h : j < L.length) : L.getD j default = L[j] := by simp [List.getD, List.getElem?_eq_getElem h]
theorem mem_nIds (r : RW) (z : Int) : z ∈ nIds r r.nd.length ↔ z ∈ r.nd.map (fun x => x.id) := by
  unfold nIds
  rw [List.take_length, List.mem_reverse]
theorem fine_of {r : RW} (h : (chk r).2.2 = 0) : Fine r := by
  obtain ⟨o1, o2, o3, o4, o5⟩ := chk_ok h
  refine ⟨firstBad_all o1, firstBad_all o2, ids_apart_n o3, ids_apart_e o4, fun x hx => ?_, fun x hx => ?_⟩
  · obtain ⟨j, hj, rfl⟩ := List.mem_iff_getElem.1 hx
    have h1 := firstBad_all o3 j hj
    have h2 := take_zero (node_zero h1)
    unfold nErr nodeErr at h1
    rw [if_pos (node_zero (firstBad_all o3 j hj))] at h1
    rw [getD_get hj] at h1 h2
    exact ⟨h2.1, h2.2.1, h2.2.2.2.1, propsErr_zero h1⟩
  · obtain ⟨j, hj, rfl⟩ := List.mem_iff_getElem.1 hx
    have h1 := firstBad_all o4 j hj
    have h2 := take_zero (edge_zero h1)
    unfold eErr edgeErr at h1
    rw [if_pos (edge_zero (firstBad_all o4 j hj))] at h1
    rw [getD_get hj] at h1 h2
    split at h1
    · rename_i h3
      rw [mem_nIds, mem_nIds] at h3
      exact ⟨h2.1, h2.2.1, h2.2.2.2.1, h3.1, h3.2, propsErr_zero h1⟩
    · omega
theorem notin_n {r : RW} (hn : (r.nd.map (fun x => x.id)).Nodup) (j : Nat) (hj : j < r.nd.length) : r.nd[j].id ∉ nIds r j := by
  unfold nIds
  rw [List.mem_reverse, List.mem_map]
  rintro ⟨x, hx, e⟩
  rw [List.mem_take_iff_getElem] at hx
  obtain ⟨i, hi, rfl⟩ := hx
  have := List.pairwise_iff_getElem.1 hn i j (by simp; omega) (by simpa using hj) (by omega)
  simp only [List.getElem_map] at this
  exact this e
theorem notin_e {r : RW} (hn : (r.ed.map (fun x => x.id)).Nodup) (j : Nat) (hj : j < r.ed.length) : r.ed[j].id ∉ eIds r j := by
  unfold eIds
  rw [List.mem_reverse, List.mem_map]
  rintro ⟨x, hx, e⟩
  rw [List.mem_take_iff_getElem] at hx
  obtain ⟨i, hi, rfl⟩ := hx
  have := List.pairwise_iff_getElem.1 hn i j (by simp; omega) (by simpa using hj) (by omega)
  simp only [List.getElem_map] at this
  exact this e
theorem take_of {L : List TD} {ids : List Int} {z : Int} {s : ByteArray} (h1 : 0 ≤ z) (h2 : z ≤ 1099511627776) (h3 : z ∉ ids) (h4 : 0 ≤ labAt L s) : takeErr L ids z s = 0 := by
  unfold takeErr
  rw [if_neg (by omega), if_neg h3, if_neg (by unfold labAt at h4; omega)]
theorem Fine.chk {r : RW} (h : Fine r) : chk r = (0, 0, 0) := by
  have o1 := firstBad_none h.nt
  have o2 := firstBad_none h.et
  have o3 : firstBad (nErr r) r.nd.length = none := firstBad_none fun j hj => by
    have k := h.ns _ (List.getElem_mem hj)
    unfold nErr nodeErr
    rw [getD_get hj, if_pos (take_of k.lo k.hi (notin_n h.nn j hj) k.lab), propsErr, if_pos k.ps]
  have o4 : firstBad (eErr r) r.ed.length = none := firstBad_none fun j hj => by
    have k := h.es _ (List.getElem_mem hj)
    unfold eErr edgeErr
    rw [getD_get hj, if_pos (take_of k.lo k.hi (notin_e h.en j hj) k.lab), if_pos ⟨(mem_nIds r _).2 k.fr, (mem_nIds r _).2 k.tt⟩, propsErr, if_pos k.ps]
  unfold Go.Proofs.YtmioohbailhppaaDoor.chk
  rw [o1, o2, o3, o4]
/-- Another order; edges left out. -/
theorem Fine.other {r x : RW} (h : Fine r) (h1 : x.nt = r.nt) (h2 : x.et = r.et) (hn : x.nd.Perm r.nd) {S : List ED} (hs : S.Sublist r.ed) (he : x.ed.Perm S) : Fine x := by
  refine ⟨by rw [h1]; exact h.nt, by rw [h2]; exact h.et, (hn.map _).nodup_iff.2 h.nn, (he.map _).nodup_iff.2 (h.en.sublist (hs.map _)), fun y hy => ?_, fun y hy => ?_⟩
  · rw [h1]
    exact h.ns y (hn.mem_iff.1 hy)
  · have k := h.es y (hs.subset (he.mem_iff.1 hy))
    rw [h2]
    exact ⟨k.lo, k.hi, k.lab, (hn.map _).mem_iff.2 k.fr, (hn.map _).mem_iff.2 k.tt, k.ps⟩
/-- What a label declares may be declared. -/
theorem decl_fine {T : List TD} (hT : ∀ k, k < T.length → typeErr T k = 0) (s : ByteArray) : Uniq (declOf T s) ∧ ∀ d ∈ declOf T s, kindB d.k = true := by
  have key : anyBad (declOf T s) = false := by
    unfold declOf
    by_cases hl : (labAt T s).toNat < T.length
    · have := hT _ hl
      unfold typeErr at this
      split at this
      · omega
      split at this
      · omega
      split at this
      · omega
      split at this
      · omega
      split at this
      · omega
      · rename_i hb
        exact Bool.eq_false_iff.2 hb
    · have e : T.getD (labAt T s).toNat default = default := by simp [List.getD, List.getElem?_eq_none (Nat.le_of_not_lt hl)]
      rw [e]
      rfl
  refine ⟨uniq_of key, fun d hd => ?_⟩
  obtain ⟨j, hj, rfl⟩ := List.mem_iff_getElem.1 hd
  rw [anyBad, List.any_eq_false] at key
  have := key j (by simpa using hj)
  unfold badP at this
  rw [getD_get hj] at this
  simp only [Bool.not_eq_true, Bool.or_eq_false_iff, Bool.not_eq_false'] at this
  exact this.2

/-- The IDs of what is in order; where each record is from. -/
theorem ids_n {r x : RW} (g : SrtG r x) : ∃ S : List ND, S.Perm r.nd ∧ S.Pairwise (fun x y => x.id ≤ y.id) ∧ x.nd.map (fun x => x.id) = S.map (fun x => x.id) := by
  obtain ⟨S, h1, h2, h3⟩ := g.nd
  refine ⟨S, h1, h2, ?_⟩
  have := congrArg (List.map Prod.fst) h3
  simpa [List.map_map, Function.comp_def, cN, sN] using this
theorem from_n {r x : RW} (g : SrtG r x) : ∀ y ∈ x.nd, ∃ s ∈ r.nd, cN y = sN r.nt s := by
  intro y hy
  obtain ⟨S, h1, h2, h3⟩ := g.nd
  have : cN y ∈ x.nd.map cN := List.mem_map.2 ⟨y, hy, rfl⟩
  rw [h3] at this
  obtain ⟨s, hs, e⟩ := List.mem_map.1 this
  exact ⟨s, h1.mem_iff.1 hs, e.symm⟩
theorem pair_map {α : Type} {f : α → Int} {L : List α} (h : (L.map f).Pairwise (fun x y => x ≤ y)) : L.Pairwise (fun x y => f x ≤ f y) := List.pairwise_map.1 h
theorem sorted_n {r x : RW} (g : SrtG r x) : x.nd.Pairwise (fun x y => x.id ≤ y.id) := by
  obtain ⟨S, h1, h2, h3⟩ := ids_n g
  refine pair_map ?_
  rw [h3]
  exact List.pairwise_map.2 h2
/-- In order, both orders are one. -/
theorem one_n {r r' x y : RW} (h : (r.nd.map (fun x => x.id)).Nodup) (hp : r'.nd.Perm r.nd) (ht : r'.nt = r.nt) (g : SrtG r x) (g' : SrtG r' y) : x.nd.map cN = y.nd.map cN := by
  obtain ⟨S, h1, h2, h3⟩ := g.nd
  obtain ⟨S', k1, k2, k3⟩ := g'.nd
  have e : S = S' := one_order (fun x => x.id) S S' (h1.trans (hp.symm.trans k1.symm)) h2 k2 ((h1.map _).nodup_iff.2 h)
  rw [h3, k3, ht, e]
/-- What is in order stays so. -/
theorem again_n {r x y : RW} (h : Fine r) (g : SrtG r x) (g' : SrtG x y) : x.nd.map cN = y.nd.map cN := by
  obtain ⟨S, h1, h2, h3⟩ := g'.nd
  obtain ⟨S0, k1, k2, k3⟩ := ids_n g
  have e : S = x.nd := one_order (fun x => x.id) S x.nd h1 h2 (sorted_n g) ((h1.map _).nodup_iff.2 (by rw [k3]; exact (k1.map _).nodup_iff.2 h.nn))
  rw [h3, e]
  refine List.map_congr_left fun z hz => ?_
  obtain ⟨s, hs, e1⟩ := from_n g z hz
  simp only [cN, sN, Prod.mk.injEq] at e1 ⊢
  obtain ⟨e1, e2, e3⟩ := e1
  refine ⟨trivial, trivial, ?_⟩
  rw [declOf_eq g.nt, e2, e3]
  exact (srt_again (decl_fine h.nt s.lab).1).symm
theorem eq_n {x y : RW} (bx : ∀ z ∈ x.nd, ∀ v ∈ z.ps, Bare v) (by_ : ∀ z ∈ y.nd, ∀ v ∈ z.ps, Bare v) (h : x.nd.map cN = y.nd.map cN) : ∀ i, i < x.nd.length → NdEq (x.nd.getD i default) (y.nd.getD i default) := by
  intro i hi
  have hl : x.nd.length = y.nd.length := by simpa using congrArg List.length h
  have hi2 : i < y.nd.length := by omega
  have e := map_get cN x.nd y.nd h i hi
  have b1 := bx (x.nd.getD i default) (by rw [getD_get hi]; exact List.getElem_mem hi)
  have b2 := by_ (y.nd.getD i default) (by rw [getD_get hi2]; exact List.getElem_mem hi2)
  simp only [cN, Prod.mk.injEq] at e
  generalize x.nd.getD i default = X at e b1
  generalize y.nd.getD i default = Y at e b2
  obtain ⟨e1, e2, e3⟩ := e
  exact ⟨e1.symm, e2.symm, by rw [← e3]; exact ⟨rfl, fun i hi => rfl, fun i hi => (b1 _ (by rw [getD_get hi]; exact List.getElem_mem hi)).l, fun i hi => (b1 _ (by rw [getD_get hi]; exact List.getElem_mem hi)).l⟩⟩

/-- The IDs of what is in order; where each record is from. -/
theorem ids_e {r x : RW} (g : SrtG r x) : ∃ S : List ED, S.Perm r.ed ∧ S.Pairwise (fun x y => x.id ≤ y.id) ∧ x.ed.map (fun x => x.id) = S.map (fun x => x.id) := by
  obtain ⟨S, h1, h2, h3⟩ := g.ed
  refine ⟨S, h1, h2, ?_⟩
  have := congrArg (List.map Prod.fst) h3
  simpa [List.map_map, Function.comp_def, cE, sE] using this
theorem from_e {r x : RW} (g : SrtG r x) : ∀ y ∈ x.ed, ∃ s ∈ r.ed, cE y = sE r.et s := by
  intro y hy
  obtain ⟨S, h1, h2, h3⟩ := g.ed
  have : cE y ∈ x.ed.map cE := List.mem_map.2 ⟨y, hy, rfl⟩
  rw [h3] at this
  obtain ⟨s, hs, e⟩ := List.mem_map.1 this
  exact ⟨s, h1.mem_iff.1 hs, e.symm⟩
theorem sorted_e {r x : RW} (g : SrtG r x) : x.ed.Pairwise (fun x y => x.id ≤ y.id) := by
  obtain ⟨S, h1, h2, h3⟩ := ids_e g
  refine pair_map ?_
  rw [h3]
  exact List.pairwise_map.2 h2
/-- In order, both orders are one. -/
theorem one_e {r r' x y : RW} (h : (r.ed.map (fun x => x.id)).Nodup) (hp : r'.ed.Perm r.ed) (ht : r'.et = r.et) (g : SrtG r x) (g' : SrtG r' y) : x.ed.map cE = y.ed.map cE := by
  obtain ⟨S, h1, h2, h3⟩ := g.ed
  obtain ⟨S', k1, k2, k3⟩ := g'.ed
  have e : S = S' := one_order (fun x => x.id) S S' (h1.trans (hp.symm.trans k1.symm)) h2 k2 ((h1.map _).nodup_iff.2 h)
  rw [h3, k3, ht, e]
/-- What is in order stays so. -/
theorem again_e {r x y : RW} (h : Fine r) (g : SrtG r x) (g' : SrtG x y) : x.ed.map cE = y.ed.map cE := by
  obtain ⟨S, h1, h2, h3⟩ := g'.ed
  obtain ⟨S0, k1, k2, k3⟩ := ids_e g
  have e : S = x.ed := one_order (fun x => x.id) S x.ed h1 h2 (sorted_e g) ((h1.map _).nodup_iff.2 (by rw [k3]; exact (k1.map _).nodup_iff.2 h.en))
  rw [h3, e]
  refine List.map_congr_left fun z hz => ?_
  obtain ⟨s, hs, e1⟩ := from_e g z hz
  simp only [cE, sE, Prod.mk.injEq] at e1 ⊢
  obtain ⟨e1, e2, e3, e4, e5⟩ := e1
  refine ⟨trivial, trivial, trivial, trivial, ?_⟩
  rw [declOf_eq g.et, e2, e5]
  exact (srt_again (decl_fine h.et s.lab).1).symm
theorem eq_e {x y : RW} (bx : ∀ z ∈ x.ed, ∀ v ∈ z.ps, Bare v) (by_ : ∀ z ∈ y.ed, ∀ v ∈ z.ps, Bare v) (h : x.ed.map cE = y.ed.map cE) : ∀ i, i < x.ed.length → EdEq (x.ed.getD i default) (y.ed.getD i default) := by
  intro i hi
  have hl : x.ed.length = y.ed.length := by simpa using congrArg List.length h
  have hi2 : i < y.ed.length := by omega
  have e := map_get cE x.ed y.ed h i hi
  have b1 := bx (x.ed.getD i default) (by rw [getD_get hi]; exact List.getElem_mem hi)
  have b2 := by_ (y.ed.getD i default) (by rw [getD_get hi2]; exact List.getElem_mem hi2)
  simp only [cE, Prod.mk.injEq] at e
  generalize x.ed.getD i default = X at e b1
  generalize y.ed.getD i default = Y at e b2
  obtain ⟨e1, e2, e3, e4, e5⟩ := e
  exact ⟨e1.symm, e2.symm, e3.symm, e4.symm, by rw [← e5]; exact ⟨rfl, fun i hi => rfl, fun i hi => (b1 _ (by rw [getD_get hi]; exact List.getElem_mem hi)).l, fun i hi => (b1 _ (by rw [getD_get hi]; exact List.getElem_mem hi)).l⟩⟩

/-- In order, it may be. -/
theorem Fine.sorted {r x : RW} (h : Fine r) (g : SrtG r x) : Fine x := by
  have hln : x.nt.length = r.nt.length := by simpa using congrArg List.length g.nt
  have hle : x.et.length = r.et.length := by simpa using congrArg List.length g.et
  have in_ := ids_n g
  have ie := ids_e g
  obtain ⟨S, hS, hso, hm⟩ := in_
  obtain ⟨S2, hS2, hso2, hm2⟩ := ie
  refine ⟨fun k hk => by rw [typeErr_eq g.nt]; exact h.nt k (by omega), fun k hk => by rw [typeErr_eq g.et]; exact h.et k (by omega), by rw [hm]; exact (hS.map _).nodup_iff.2 h.nn, by rw [hm2]; exact (hS2.map _).nodup_iff.2 h.en, fun y hy => ?_, fun y hy => ?_⟩
  · obtain ⟨s, hs, e⟩ := from_n g y hy
    have k := h.ns s hs
    simp only [cN, sN, Prod.mk.injEq] at e
    obtain ⟨e1, e2, e3⟩ := e
    refine ⟨by rw [e1]; exact k.lo, by rw [e1]; exact k.hi, by rw [labAt_eq g.nt, e2]; exact k.lab, ?_⟩
    rw [declOf_eq g.nt, e2, e3]
    exact srt_goP (decl_fine h.nt s.lab).1 (decl_fine h.nt s.lab).2 k.ps
  · obtain ⟨s, hs, e⟩ := from_e g y hy
    have k := h.es s hs
    simp only [cE, sE, Prod.mk.injEq] at e
    obtain ⟨e1, e2, e3, e4, e5⟩ := e
    have hmem : ∀ z, z ∈ x.nd.map (fun x => x.id) ↔ z ∈ r.nd.map (fun x => x.id) := fun z => by rw [hm]; exact (hS.map _).mem_iff
    refine ⟨by rw [e1]; exact k.lo, by rw [e1]; exact k.hi, by rw [labAt_eq g.et, e2]; exact k.lab, by rw [hmem, e3]; exact k.fr, by rw [hmem, e4]; exact k.tt, ?_⟩
    rw [declOf_eq g.et, e2, e5]
    exact srt_goP (decl_fine h.et s.lab).1 (decl_fine h.et s.lab).2 k.ps
end Go.Proofs.YtmioohbailhppaaDoor
