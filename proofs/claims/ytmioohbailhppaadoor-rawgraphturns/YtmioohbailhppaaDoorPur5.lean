/-
  Records in order, as lists: one order by IDs; both ways of telling properties say the same.
-/
import Derived.Test.YtmioohbailhppaaDoorSme
import Derived.Test.YtmioohbailhppaaDoorTld
import Derived.Test.YtmioohbailhppaaDoorPur4
import Derived.Test.YtmioohbailhppaaDoorPur
namespace Go.Proofs.YtmioohbailhppaaDoor
open Go.RowKit
set_option linter.unusedSimpArgs false
set_option linter.unusedVariables false

/-- There is one order by numbers that are all apart. -/
theorem one_order {α : Type} (f : α → Int) : ∀ (S S' : List α), S.Perm S' → S.Pairwise (fun x y => f x ≤ f y) → S'.Pairwise (fun x y => f x ≤ f y) → (S.map f).Nodup → S = S'
  | [], S', hp, _, _, _ => (List.nil_perm.1 hp).symm
  | x :: S, [], hp, _, _, _ => by simpa using hp.length_eq
  | x :: S, y :: T, hp, h1, h2, hn => by
    rw [List.pairwise_cons] at h1 h2
    rw [List.map_cons, List.nodup_cons] at hn
    have hx : x ∈ y :: T := hp.mem_iff.1 List.mem_cons_self
    have hy : y ∈ x :: S := hp.mem_iff.2 List.mem_cons_self
    have e : x = y := by
      rcases List.mem_cons.1 hx with e | hxT
      · exact e
      · rcases List.mem_cons.1 hy with e | hyS
        · exact e.symm
        · exfalso
          have a1 := h1.1 y hyS
          have a2 := h2.1 x hxT
          exact hn.1 (List.mem_map.2 ⟨y, hyS, by omega⟩)
    subst e
    rw [one_order f S T ((List.perm_cons x).1 hp) h1.2 h2.2 hn.2]
/-- IDs of nodes that may be are all apart. -/
theorem ids_apart_n {r : RW} (h : firstBad (nErr r) r.nd.length = none) : (r.nd.map (fun x => x.id)).Nodup := by
  rw [List.Nodup, List.pairwise_iff_getElem]
  intro i j hi hj hij
  simp only [List.length_map] at hi hj
  simp only [List.getElem_map]
  have := (take_zero (node_zero (firstBad_all h j hj))).2.2.1
  intro e
  refine this ?_
  unfold nIds
  rw [List.mem_reverse, List.mem_map]
  refine ⟨r.nd[i], ?_, by simpa [List.getD, List.getElem?_eq_getElem hj] using e⟩
  rw [List.mem_take_iff_getElem]
  exact ⟨i, by omega, rfl⟩
theorem ids_apart_e {r : RW} (h : firstBad (eErr r) r.ed.length = none) : (r.ed.map (fun x => x.id)).Nodup := by
  rw [List.Nodup, List.pairwise_iff_getElem]
  intro i j hi hj hij
  simp only [List.length_map] at hi hj
  simp only [List.getElem_map]
  have := (take_zero (edge_zero (firstBad_all h j hj))).2.2.1
  intro e
  refine this ?_
  unfold eIds
  rw [List.mem_reverse, List.mem_map]
  refine ⟨r.ed[i], ?_, by simpa [List.getD, List.getElem?_eq_getElem hj] using e⟩
  rw [List.mem_take_iff_getElem]
  exact ⟨i, by omega, rfl⟩
/-- No name twice among properties. -/
def UniqV (L : List PV) : Prop := L.Pairwise fun x y => x.n ≠ y.n
theorem pick_filter (s : ByteArray) : ∀ L : List PV, UniqV L → pickV L s = (L.filter (isV s)).map bareV
  | [], _ => by simp [pickV, firstAt]
  | x :: L, h => by
    rw [UniqV, List.pairwise_cons] at h
    have ih := pick_filter s L h.2
    have hlo := firstAt_lo (fun x : PV => decide (x.n = s)) L
    by_cases hx : x.n = s
    · have h0 : firstAt (fun x : PV => decide (x.n = s)) (x :: L) = 0 := by simp [firstAt, hx]
      have hf : L.filter (isV s) = [] := by
        rw [List.filter_eq_nil_iff]
        intro y hy
        have := h.1 y hy
        rw [hx] at this
        simp [isV, Ne.symm this]
      unfold pickV
      rw [h0, List.filter_cons, hf]
      by_cases hk : x.v.k = 0
      · simp [isV, hx, hk]
      · simp [isV, hx, hk]
    · have hf : (x :: L).filter (isV s) = L.filter (isV s) := by
        rw [List.filter_cons]
        simp [isV, hx]
      rw [hf, ← ih]
      unfold pickV
      have h0 : firstAt (fun x : PV => decide (x.n = s)) (x :: L) = if firstAt (fun x : PV => decide (x.n = s)) L = -1 then -1 else firstAt (fun x : PV => decide (x.n = s)) L + 1 := by simp [firstAt, hx]
      rw [h0]
      generalize firstAt (fun x : PV => decide (x.n = s)) L = F at hlo
      by_cases hF : F = -1
      · subst hF
        simp
      · rw [if_neg hF]
        have e : (F + 1).toNat = F.toNat + 1 := by omega
        have g1 : ¬ F + 1 < 0 := by omega
        have g2 : ¬ F < 0 := by omega
        rw [e, if_neg g1, if_neg g2]
        simp
theorem srt_told (D : List PD) (L : List PV) (h : UniqV L) : srtV D L = (tldV D L).map bareV := by
  unfold srtV tldV
  rw [List.map_flatMap]
  congr 1
  funext d
  exact pick_filter d.n L h
/-- Properties that may be: no name twice, no paths. -/
theorem props_fine {D : List PD} {L : List PV} (hu : Uniq D) (hk : ∀ d ∈ D, kindB d.k = true) (h : goP D [] L = true) : UniqV L ∧ ∀ x ∈ L, x.v.l = 0 := by
  rw [props_eq hu, refProps, List.all_eq_true] at h
  have hb : ∀ j, j < L.length → badV D L j = false := fun j hj => by simpa using h j (by simpa using hj)
  refine ⟨?_, fun x hx => ?_⟩
  · rw [UniqV, List.pairwise_iff_getElem]
    intro i j hi hj hij e
    have := hb j hj
    unfold badV at this
    rw [Bool.or_eq_false_iff, Bool.or_eq_false_iff] at this
    have hd := this.2
    unfold dupB at hd
    rw [List.any_eq_false] at hd
    have := hd L[i] (by rw [List.mem_take_iff_getElem]; exact ⟨i, by omega, rfl⟩)
    simp [List.getD, List.getElem?_eq_getElem hj, e] at this
  · obtain ⟨j, hj, rfl⟩ := List.mem_iff_getElem.1 hx
    have := hb j hj
    unfold badV at this
    rw [Bool.or_eq_false_iff, Bool.or_eq_false_iff] at this
    have e : L.getD j default = L[j] := by simp [List.getD, List.getElem?_eq_getElem hj]
    rw [e] at this
    have h1 : rgtP L[j] = true := by simpa using this.1.1
    have h2 : declB D L[j] = true := by simpa using this.1.2
    have hk6 : L[j].v.k ≠ 6 := by
      rw [declB, List.any_eq_true] at h2
      obtain ⟨d, hd, hf⟩ := h2
      have := hk d hd
      unfold kindB at this
      simp at this hf
      omega
    unfold rgtP rgtB at h1
    rw [Bool.and_eq_true] at h1
    have h3 := h1.1
    unfold othB at h3
    simp [hk6] at h3
    exact h3.2
/-- Numbers that are all apart, below a bound. -/
theorem pigeon : ∀ (n : Nat) (l : List Nat), l.Nodup → (∀ x ∈ l, x < n) → l.length ≤ n
  | 0, l, _, h => by
    cases l with
    | nil => simp
    | cons x l => exact absurd (h x List.mem_cons_self) (by omega)
  | n + 1, l, hn, h => by
    have ih := pigeon n (l.erase n) (hn.erase n) (fun x hx => by
      rw [hn.mem_erase_iff] at hx
      have := h x hx.2
      omega)
    by_cases hm : n ∈ l
    · rw [List.length_erase_of_mem hm] at ih
      omega
    · rw [List.erase_of_not_mem hm] at ih
      omega
theorem goP_len (D : List PD) : ∀ (L : List PV) (st : List Nat), st.Nodup → (∀ x ∈ st, x < D.length) → goP D st L = true → st.length + L.length ≤ D.length
  | [], st, hn, hl, _ => by simpa using pigeon D.length st hn hl
  | x :: L, st, hn, hl, h => by
    unfold goP at h
    split at h
    · cases h
    · split at h
      · cases h
      · split at h
        · cases h
        · rename_i h1 h2 h3
          have hlo := firstAt_lo (fun y : PD => decide (y.n = x.n)) D
          have := goP_len D L _ (List.nodup_cons.2 ⟨h2, hn⟩) (fun y hy => by
            rcases List.mem_cons.1 hy with e | hy
            · omega
            · exact hl y hy) h
          simp only [List.length_cons] at this ⊢
          omega
theorem tld_in {D : List PD} {L : List PV} : ∀ x ∈ tldV D L, x ∈ L := by
  intro x hx
  obtain ⟨d, _, hd⟩ := List.mem_flatMap.1 hx
  exact (List.mem_filter.1 hd).1
/-- Both ways of telling properties are alike. -/
theorem ps_alike {D : List PD} {L : List PV} (hu : UniqV L) (hl : ∀ x ∈ L, x.v.l = 0) : PsEq (srtV D L) (tldV D L) := by
  rw [srt_told D L hu]
  refine ⟨by simp, fun i hi => ?_, fun i hi => ?_, fun i hi => ?_⟩
  all_goals
    have hi' : i < (tldV D L).length := by simpa using hi
    have e : (tldV D L).getD i default = (tldV D L)[i] := by simp [List.getD, List.getElem?_eq_getElem hi']
    have e2 : ((tldV D L).map bareV).getD i default = bareV (tldV D L)[i] := by simp [List.getD, List.getElem?_map, List.getElem?_eq_getElem hi']
  · rw [e, e2]
    rfl
  · rw [e2]
    rfl
  · rw [e]
    exact hl _ (tld_in _ (List.getElem_mem hi'))
end Go.Proofs.YtmioohbailhppaaDoor
