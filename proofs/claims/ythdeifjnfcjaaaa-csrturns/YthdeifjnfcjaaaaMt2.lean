/-
  What rising lists have in common: the document's way, other orders, how many there are.
-/
import Derived.Test.YthdeifjnfcjaaaaMt
namespace Go.Proofs.Ythdeifjnfcjaaaa
set_option linter.unusedSimpArgs false
set_option linter.unusedVariables false

theorem inAll_iff {L : List (List Int)} {z : Int} : inAll L z ↔ ∀ l ∈ L, z ∈ l := by
  constructor
  · intro h l hl
    obtain ⟨j, hj, rfl⟩ := List.mem_iff_getElem.1 hl
    simpa [List.getD, hj] using h j hj
  · intro h j hj
    have := h L[j] (List.getElem_mem hj)
    simpa [List.getD, hj] using this
/-- Does it stand in each list? -/
def inAllB (L : List (List Int)) (z : Int) : Bool := L.all fun l => l.contains z
theorem inAllB_iff {L : List (List Int)} {z : Int} : inAllB L z = true ↔ inAll L z := by
  rw [inAll_iff]
  simp [inAllB]
theorem ris_filter {l : List Int} (h : Ris l) (p : Int → Bool) : Ris (l.filter p) := h.sublist List.filter_sublist
theorem met_filter {L : List (List Int)} (hp : 0 < L.length) (h : Ris (L.getD 0 [])) : IsMet L ((L.getD 0 []).filter (inAllB L)) :=
  ⟨ris_filter h _, fun z => by
    rw [List.mem_filter, inAllB_iff]
    exact ⟨fun h => h.2, fun h => ⟨h 0 hp, h⟩⟩⟩
/-- As the document goes: all lists but the first are asked. -/
def restB (L : List (List Int)) (z : Int) : Bool := (L.drop 1).all fun l => l.contains z
theorem rest_filter {L : List (List Int)} (hp : 0 < L.length) : (L.getD 0 []).filter (restB L) = (L.getD 0 []).filter (inAllB L) := by
  refine List.filter_congr fun z hz => ?_
  match L, hp with
  | l :: r, _ =>
    have : z ∈ l := by simpa using hz
    simp [restB, inAllB, this]
theorem met_rest {L : List (List Int)} (hp : 0 < L.length) (h : Ris (L.getD 0 [])) : IsMet L ((L.getD 0 []).filter (restB L)) := by
  rw [rest_filter hp]
  exact met_filter hp h
theorem IsMet.other {L L' : List (List Int)} {M : List Int} (h : IsMet L M) (e : ∀ l, l ∈ L ↔ l ∈ L') : IsMet L' M :=
  ⟨h.1, fun z => (h.2 z).trans (by
    rw [inAll_iff, inAll_iff]
    exact ⟨fun k l hl => k l ((e l).2 hl), fun k l hl => k l ((e l).1 hl)⟩)⟩
theorem met_one {l : List Int} (h : Ris l) : IsMet [l] l := ⟨h, fun z => by rw [inAll_iff]; simp⟩
theorem mem_turned {α : Type} (L : List α) (n : Nat) (l : α) : l ∈ L ↔ l ∈ L.drop n ++ L.take n := by
  conv => lhs; rw [← List.take_append_drop n L]
  rw [List.mem_append, List.mem_append]
  exact or_comm
theorem met_len {L : List (List Int)} {M : List Int} (hp : 0 < L.length) (h : Ris (L.getD 0 [])) (m : IsMet L M) : M = (L.getD 0 []).filter (inAllB L) := m.one (met_filter hp h)
theorem count_filter (l : List Int) (p : Int → Bool) (k : Nat) (hk : k < l.length) : ((l.take (k + 1)).filter p).length = ((l.take k).filter p).length + if p (l.getD k 0) then 1 else 0 := by
  rw [List.take_succ_eq_append_getElem hk, List.filter_append, List.length_append]
  congr 1
  have : l.getD k 0 = l[k] := by simp [List.getD, hk]
  rw [this]
  by_cases h : p l[k] <;> simp [h]
/-- In how many lists a number stands. -/
def timesN (L : List (List Int)) (z : Int) : Nat := L.countP fun l => l.contains z
theorem times_le (L : List (List Int)) (z : Int) : timesN L z ≤ L.length := List.countP_le_length
theorem times_all (L : List (List Int)) (z : Int) : timesN L z = L.length ↔ inAllB L z = true := by
  simp [timesN, inAllB, List.countP_eq_length]
theorem times_step (L : List (List Int)) (z : Int) (k : Nat) (hk : k < L.length) : timesN (L.take (k + 1)) z = timesN (L.take k) z + if (L.getD k []).contains z then 1 else 0 := by
  rw [List.take_succ_eq_append_getElem hk]
  have : L.getD k [] = L[k] := by simp [List.getD, hk]
  rw [this, timesN, List.countP_append, timesN]
  simp [List.countP_cons]
/-- Lists of the lists of records. -/
theorem getD_map {α β : Type} (f : α → β) (L : List α) (j : Nat) (d : α) (d' : β) (hj : j < L.length) : (L.map f).getD j d' = f (L.getD j d) := by
  simp [List.getD, hj]
end Go.Proofs.Ythdeifjnfcjaaaa
