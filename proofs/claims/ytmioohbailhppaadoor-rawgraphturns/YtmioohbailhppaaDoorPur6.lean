/-
  A graph that may be, in another order, with edges left out, and in order: as lists.
-/
import Derived.Test.YtmioohbailhppaaDoorPur5
import Derived.Test.YtmioohbailhppaaDoorSrg
namespace Go.Proofs.YtmioohbailhppaaDoor
open Go.RowKit
set_option linter.unusedSimpArgs false
set_option linter.unusedVariables false

/-- What is said of types hangs on their names and properties alone. -/
theorem firstAt_map {α β : Type} (g : α → β) (f : β → Bool) : ∀ L : List α, firstAt (fun x => f (g x)) L = firstAt f (L.map g)
  | [] => rfl
  | x :: r => by
    have := firstAt_map g f r
    simp only [firstAt, List.map_cons, this]
theorem labAt_eq {L M : List TD} (h : L.map tC = M.map tC) (s : ByteArray) : labAt L s = labAt M s := by
  have e := fun K : List TD => firstAt_map tC (fun p : ByteArray × List PD => decide (p.1 = s)) K
  unfold labAt
  exact (e L).trans (by rw [h]; exact (e M).symm)
theorem at_eq {L M : List TD} (h : L.map tC = M.map tC) (j : Nat) : tC (L.getD j default) = tC (M.getD j default) := by
  have e := fun K : List TD => show tC (K.getD j default) = (K.map tC).getD j (tC default) by
    simp only [List.getD, List.getElem?_map]
    cases K[j]? <;> rfl
  rw [e L, e M, h]
theorem declOf_eq {L M : List TD} (h : L.map tC = M.map tC) (s : ByteArray) : declOf L s = declOf M s := by
  unfold declOf
  rw [labAt_eq h s]
  exact congrArg Prod.snd (at_eq h _)
theorem typeErr_eq {L M : List TD} (h : L.map tC = M.map tC) (k : Nat) : typeErr L k = typeErr M k := by
  have hk := at_eq h k
  have h1 : (L.getD k default).n = (M.getD k default).n := congrArg Prod.fst hk
  have h2 : (L.getD k default).ps = (M.getD k default).ps := congrArg Prod.snd hk
  have h3 := labAt_eq (L := L.take k) (M := M.take k) (by rw [List.map_take, List.map_take, h]) (M.getD k default).n
  unfold labAt at h3
  unfold typeErr
  rw [h1, h2, h3]
/-- Properties that may be, one by one. -/
theorem props_of {D : List PD} {L : List PV} (hu : Uniq D) (h1 : ∀ x ∈ L, rgtP x = true ∧ declB D x = true) (h2 : UniqV L) : goP D [] L = true := by
  rw [props_eq hu, refProps, List.all_eq_true]
  intro j hj
  have hj' : j < L.length := by simpa using hj
  have e : L.getD j default = L[j] := by simp [List.getD, List.getElem?_eq_getElem hj']
  have hx := h1 L[j] (List.getElem_mem hj')
  have hd : dupB L j L[j].n = false := by
    unfold dupB
    rw [List.any_eq_false]
    intro x hx
    rw [List.mem_take_iff_getElem] at hx
    obtain ⟨i, hi, rfl⟩ := hx
    have := List.pairwise_iff_getElem.1 h2 i j (by omega) hj' (by omega)
    simpa using this
  unfold badV
  rw [e, hx.1, hx.2, hd]
  rfl
theorem props_each {D : List PD} {L : List PV} (hu : Uniq D) (h : goP D [] L = true) : ∀ x ∈ L, rgtP x = true ∧ declB D x = true := by
  intro x hx
  rw [props_eq hu, refProps, List.all_eq_true] at h
  obtain ⟨j, hj, rfl⟩ := List.mem_iff_getElem.1 hx
  have := h j (by simpa using hj)
  have e : L.getD j default = L[j] := by simp [List.getD, List.getElem?_eq_getElem hj]
  unfold badV at this
  rw [e] at this
  simp only [Bool.not_eq_true', Bool.or_eq_false_iff, Bool.not_eq_false'] at this
  exact this.1
theorem uniq_pair {D : List PD} (hu : Uniq D) : D.Pairwise fun x y => x.n ≠ y.n := by
  rw [List.pairwise_iff_getElem]
  intro i j hi hj hij e
  have := hu i j hi hj (by simpa [List.getD, List.getElem?_eq_getElem hi, List.getElem?_eq_getElem hj] using e)
  omega
theorem pick_of {L : List PV} {s : ByteArray} : ∀ y ∈ pickV L s, ∃ x ∈ L, x.n = s ∧ x.v.k ≠ 0 ∧ y = bareV x := by
  intro y hy
  unfold pickV at hy
  split at hy
  · simp at hy
  · split at hy
    · simp at hy
    · rename_i h1 h2
      have hlo := firstAt_lo (fun x : PV => decide (x.n = s)) L
      obtain ⟨k, hk⟩ : ∃ k : Nat, firstAt (fun x : PV => decide (x.n = s)) L = k := ⟨(firstAt (fun x : PV => decide (x.n = s)) L).toNat, by omega⟩
      rw [hk] at hy h2 hlo
      rw [Int.toNat_natCast] at hy h2
      have hkl : k < L.length := by omega
      have := firstAt_hit (fun x : PV => decide (x.n = s)) L k hk
      have hn : (L.getD k default).n = s := by simpa using this.2.1
      refine ⟨L.getD k default, ?_, hn, h2, by simpa using hy⟩
      simp [List.getD, List.getElem?_eq_getElem hkl]
theorem srt_of {D : List PD} {L : List PV} : ∀ y ∈ srtV D L, ∃ d ∈ D, ∃ x ∈ L, x.n = d.n ∧ x.v.k ≠ 0 ∧ y = bareV x := by
  intro y hy
  obtain ⟨d, hd, hy⟩ := List.mem_flatMap.1 hy
  obtain ⟨x, h1, h2, h3, h4⟩ := pick_of y hy
  exact ⟨d, hd, x, h1, h2, h3, h4⟩
theorem srt_uniq : ∀ {D : List PD} {L : List PV}, D.Pairwise (fun x y => x.n ≠ y.n) → UniqV (srtV D L)
  | [], L, _ => by simp [srtV, UniqV]
  | d :: D, L, h => by
    rw [List.pairwise_cons] at h
    have ih := srt_uniq (L := L) h.2
    have e : srtV (d :: D) L = pickV L d.n ++ srtV D L := by simp [srtV]
    rw [e, UniqV, List.pairwise_append]
    refine ⟨?_, ih, fun a ha b hb => ?_⟩
    · have := pickV_len L d.n
      match pickV L d.n, this with
      | [], _ => simp
      | [x], _ => simp
    · obtain ⟨x, _, hx, _, rfl⟩ := pick_of a ha
      obtain ⟨d', hd', y, _, hy, _, rfl⟩ := srt_of b hb
      show x.n ≠ y.n
      rw [hx, hy]
      exact h.1 d' hd'
theorem bare_rgt {D : List PD} (hk : ∀ d ∈ D, kindB d.k = true) {x : PV} (h1 : rgtP x = true) (h2 : declB D x = true) : rgtP (bareV x) = true ∧ declB D (bareV x) = true := by
  refine ⟨?_, h2⟩
  have hk6 : x.v.k ≠ 6 := by
    rw [declB, List.any_eq_true] at h2
    obtain ⟨d, hd, hf⟩ := h2
    have := hk d hd
    unfold kindB at this
    simp at this hf
    omega
  unfold rgtP rgtB at h1 ⊢
  rw [Bool.and_eq_true] at h1 ⊢
  refine ⟨?_, ?_⟩
  · have := h1.1
    unfold othB at this ⊢
    simp only [Bool.and_eq_true] at this ⊢
    exact ⟨this.1, by simp [bareV]⟩
  · have := h1.2
    unfold fitB at this ⊢
    have e : (bareV x).v.k = x.v.k := rfl
    rw [e]
    simp only [hk6, if_false] at this ⊢
    exact this
/-- Properties in order may be, and stay so. -/
theorem srt_goP {D : List PD} {L : List PV} (hu : Uniq D) (hk : ∀ d ∈ D, kindB d.k = true) (h : goP D [] L = true) : goP D [] (srtV D L) = true := by
  have he := props_each hu h
  refine props_of hu (fun y hy => ?_) (srt_uniq (uniq_pair hu))
  obtain ⟨d, _, x, hx, _, _, rfl⟩ := srt_of y hy
  exact bare_rgt hk (he x hx).1 (he x hx).2
theorem filter_own {g : PD → List PV} (hg : ∀ d, ∀ y ∈ g d, y.n = d.n ∧ y.v.k ≠ 0) : ∀ {D : List PD}, D.Pairwise (fun x y => x.n ≠ y.n) → ∀ d ∈ D, (D.flatMap g).filter (isV d.n) = g d
  | [], _, d, hd => by simp at hd
  | d0 :: D, h, d, hd => by
    rw [List.pairwise_cons] at h
    rw [List.flatMap_cons, List.filter_append]
    have other : ∀ (a : PD) (K : List PV), (∀ y ∈ K, y.n ≠ a.n) → K.filter (isV a.n) = [] := fun a K hK => by
      rw [List.filter_eq_nil_iff]
      intro y hy
      simp [isV, hK y hy]
    have same : (g d).filter (isV d.n) = g d := by
      rw [List.filter_eq_self]
      intro y hy
      have := hg d y hy
      simp [isV, this.1, this.2]
    rcases List.mem_cons.1 hd with rfl | hd'
    · rw [same, other d (D.flatMap g) (fun y hy => by
        obtain ⟨d', hd', hy⟩ := List.mem_flatMap.1 hy
        rw [(hg d' y hy).1]
        exact fun e => h.1 d' hd' e.symm), List.append_nil]
    · rw [other d (g d0) (fun y hy => by rw [(hg d0 y hy).1]; exact h.1 d hd'), List.nil_append]
      exact filter_own hg h.2 d hd'
theorem flatMap_same {α β : Type} {f g : α → List β} : ∀ {D : List α}, (∀ d ∈ D, f d = g d) → D.flatMap f = D.flatMap g
  | [], _ => rfl
  | d :: D, h => by rw [List.flatMap_cons, List.flatMap_cons, h d List.mem_cons_self, flatMap_same fun x hx => h x (List.mem_cons_of_mem _ hx)]
theorem srt_again {D : List PD} {L : List PV} (hu : Uniq D) : srtV D (srtV D L) = srtV D L := by
  have hp := uniq_pair hu
  have hg : ∀ d : PD, ∀ y ∈ pickV L d.n, y.n = d.n ∧ y.v.k ≠ 0 := fun d y hy => by
    obtain ⟨x, _, h1, h2, rfl⟩ := pick_of y hy
    exact ⟨h1, h2⟩
  have e : srtV D (srtV D L) = D.flatMap fun d => pickV (srtV D L) d.n := rfl
  rw [e]
  show _ = D.flatMap fun d => pickV L d.n
  refine flatMap_same fun d hd => ?_
  rw [pick_filter d.n (srtV D L) (srt_uniq hp)]
  have := filter_own hg hp d hd
  rw [show srtV D L = D.flatMap (fun d => pickV L d.n) from rfl, this]
  have hb : ∀ y ∈ pickV L d.n, bareV y = y := fun y hy => by
    obtain ⟨x, _, _, _, rfl⟩ := pick_of y hy
    rfl
  rw [List.map_congr_left hb, List.map_id']
end Go.Proofs.YtmioohbailhppaaDoor
