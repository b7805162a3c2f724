/-
  What rising lists have in common, as lists.
-/
import Derived.WalkKit
import Derived.Lib.SlicesSearch
namespace Go.Proofs.Ythdeifjnfcjaaaa
set_option linter.unusedSimpArgs false
set_option linter.unusedVariables false

/-- A list that rises. -/
abbrev Ris (l : List Int) : Prop := l.Pairwise (· < ·)
/-- It stands in each list. -/
def inAll (L : List (List Int)) (z : Int) : Prop := ∀ j, j < L.length → z ∈ L.getD j []
/-- What the lists have in common, rising. -/
def IsMet (L : List (List Int)) (M : List Int) : Prop := Ris M ∧ ∀ z, z ∈ M ↔ inAll L z

theorem ris_ext : ∀ {a b : List Int}, Ris a → Ris b → (∀ z, z ∈ a ↔ z ∈ b) → a = b
  | [], [], _, _, _ => rfl
  | [], y :: b, _, _, h => by have := (h y).2 (by simp); simp at this
  | x :: a, [], _, _, h => by have := (h x).1 (by simp); simp at this
  | x :: a, y :: b, ha, hb, h => by
    have ha' := List.pairwise_cons.1 ha
    have hb' := List.pairwise_cons.1 hb
    have hxy : x = y := by
      have h1 := (h x).1 (by simp)
      have h2 := (h y).2 (by simp)
      rcases List.mem_cons.1 h1 with e | e
      · exact e
      · rcases List.mem_cons.1 h2 with e' | e'
        · exact e'.symm
        · have := ha'.1 y e'
          have := hb'.1 x e
          omega
    subst hxy
    rw [ris_ext ha'.2 hb'.2 fun z => ?_]
    constructor
    · intro hz
      have h1 := ha'.1 z hz
      rcases List.mem_cons.1 ((h z).1 (by simp [hz])) with e | e
      · omega
      · exact e
    · intro hz
      have h1 := hb'.1 z hz
      rcases List.mem_cons.1 ((h z).2 (by simp [hz])) with e | e
      · omega
      · exact e
theorem IsMet.one {L : List (List Int)} {a b : List Int} (h : IsMet L a) (k : IsMet L b) : a = b :=
  ris_ext h.1 k.1 fun z => (h.2 z).trans (k.2 z).symm

/-- How far the lists are gone through: what is left of them, what was met, below what no number is still to be met. -/
structure Inv (L R : List (List Int)) (M : List Int) (low : Int) : Prop where
  len : R.length = L.length
  srt : ∀ j, j < R.length → Ris (R.getD j [])
  msrt : Ris M
  mlt : ∀ m ∈ M, ∀ z ∈ R.getD 0 [], m < z
  all : ∀ z, inAll L z ↔ z ∈ M ∨ inAll R z
  low : ∀ z, inAll R z → low ≤ z
  cnt : M.length + (R.getD 0 []).length ≤ (L.getD 0 []).length

theorem Inv.start {L : List (List Int)} {low : Int} (hs : ∀ j, j < L.length → Ris (L.getD j [])) (hp : 0 < L.length) (hl : ∀ z ∈ L.getD 0 [], low ≤ z) : Inv L L [] low :=
  ⟨rfl, hs, List.Pairwise.nil, by simp, by simp, fun z hz => hl z (hz 0 hp), by simp⟩
theorem getD_set_same {α : Type} {R : List α} {i : Nat} {x d : α} (h : i < R.length) : (R.set i x).getD i d = x := by simp [List.getD, h]
theorem getD_set_other {α : Type} {R : List α} {i j : Nat} {x d : α} (h : j ≠ i) : (R.set i x).getD j d = R.getD j d := by
  simp only [List.getD]
  rw [List.getElem?_set_ne (fun e => h e.symm)]
theorem mem_drop_iff {l : List Int} {k : Nat} {low z : Int} (h : ∀ x ∈ l.take k, x < low) (hz : low ≤ z) : z ∈ l.drop k ↔ z ∈ l := by
  constructor
  · exact List.mem_of_mem_drop
  · intro hm
    rw [← List.take_append_drop k l] at hm
    rcases List.mem_append.1 hm with e | e
    · have := h z e; omega
    · exact e
theorem Inv.step {L R : List (List Int)} {M : List Int} {low : Int} (h : Inv L R M low) {i k : Nat} (hi : i < R.length) (hk : ∀ x ∈ (R.getD i []).take k, x < low) :
    Inv L (R.set i ((R.getD i []).drop k)) M low := by
  have key : ∀ z, inAll (R.set i ((R.getD i []).drop k)) z ↔ inAll R z := by
    intro z
    constructor
    · intro hz j hj
      have := hz j (by simpa using hj)
      by_cases e : j = i
      · subst e
        rw [getD_set_same hi] at this
        exact List.mem_of_mem_drop this
      · rwa [getD_set_other e] at this
    · intro hz j hj
      have hl := h.low z hz
      have hj' : j < R.length := by simpa using hj
      by_cases e : j = i
      · subst e
        rw [getD_set_same hi]
        exact (mem_drop_iff hk hl).2 (hz j hj')
      · rw [getD_set_other e]
        exact hz j hj'
  refine ⟨by simpa using h.len, fun j hj => ?_, h.msrt, fun m hm z hz => ?_, fun z => (h.all z).trans (or_congr Iff.rfl (key z).symm), fun z hz => h.low z ((key z).1 hz), ?_⟩
  · have hj' : j < R.length := by simpa using hj
    by_cases e : j = i
    · subst e
      rw [getD_set_same hi]
      exact (h.srt j hj').sublist (List.drop_sublist _ _)
    · rw [getD_set_other e]
      exact h.srt j hj'
  · by_cases e : 0 = i
    · subst e
      rw [getD_set_same hi] at hz
      exact h.mlt m hm z (List.mem_of_mem_drop hz)
    · rw [getD_set_other e] at hz
      exact h.mlt m hm z hz
  · have hc := h.cnt
    by_cases e : 0 = i
    · subst e
      rw [getD_set_same hi, List.length_drop]
      omega
    · rw [getD_set_other e]
      exact hc
theorem Inv.raise {L R : List (List Int)} {M : List Int} {low : Int} (h : Inv L R M low) {i : Nat} (hi : i < R.length) {x : Int} {t : List Int} (hx : R.getD i [] = x :: t) : Inv L R M x :=
  ⟨h.len, h.srt, h.msrt, h.mlt, h.all, fun z hz => by
    have h1 := hz i hi
    have h2 := h.srt i hi
    rw [hx] at h1 h2
    rcases List.mem_cons.1 h1 with e | e
    · omega
    · have := (List.pairwise_cons.1 h2).1 z e
      omega, h.cnt⟩
theorem Inv.done {L R : List (List Int)} {M : List Int} {low : Int} (h : Inv L R M low) {i : Nat} (hi : i < R.length) (hx : R.getD i [] = []) : IsMet L M :=
  ⟨h.msrt, fun z => by
    rw [h.all z]
    constructor
    · exact Or.inl
    · rintro (e | e)
      · exact e
      · have := e i hi
        rw [hx] at this
        simp at this⟩
theorem Inv.take {L R : List (List Int)} {M : List Int} {low : Int} (h : Inv L R M low) (hp : 0 < R.length) {t : List Int} (hx : R.getD 0 [] = low :: t) (ha : inAll R low) : Inv L (R.set 0 t) (M ++ [low]) low := by
  have hs := h.srt 0 hp
  rw [hx] at hs
  have hs' := List.pairwise_cons.1 hs
  have key : ∀ z, inAll R z ↔ z = low ∨ inAll (R.set 0 t) z := by
    intro z
    constructor
    · intro hz
      by_cases e : z = low
      · exact .inl e
      · refine .inr fun j hj => ?_
        have hj' : j < R.length := by simpa using hj
        by_cases ej : j = 0
        · subst ej
          rw [getD_set_same hp]
          have := hz 0 hp
          rw [hx] at this
          rcases List.mem_cons.1 this with e' | e'
          · exact absurd e' e
          · exact e'
        · rw [getD_set_other ej]
          exact hz j hj'
    · rintro (e | e)
      · rw [e]; exact ha
      · intro j hj
        have := e j (by simpa using hj)
        by_cases ej : j = 0
        · subst ej
          rw [getD_set_same hp] at this
          rw [hx]
          exact List.mem_cons_of_mem _ this
        · rwa [getD_set_other ej] at this
  refine ⟨by simpa using h.len, fun j hj => ?_, ?_, fun m hm z hz => ?_, fun z => ?_, fun z hz => ?_, ?_⟩
  · have hj' : j < R.length := by simpa using hj
    by_cases ej : j = 0
    · subst ej
      rw [getD_set_same hp]
      exact hs'.2
    · rw [getD_set_other ej]
      exact h.srt j hj'
  · refine List.pairwise_append.2 ⟨h.msrt, by simp, fun a hM b hb => ?_⟩
    have e : b = low := by simpa using hb
    rw [e]
    exact h.mlt a hM low (by rw [hx]; simp)
  · rw [getD_set_same hp] at hz
    rcases List.mem_append.1 hm with e | e
    · exact h.mlt m e z (by rw [hx]; exact List.mem_cons_of_mem _ hz)
    · have : m = low := by simpa using e
      subst this
      exact hs'.1 z hz
  · rw [h.all z, key z]
    simp only [List.mem_append, List.mem_singleton]
    constructor
    · rintro (a | b | c)
      · exact .inl (.inl a)
      · exact .inl (.inr b)
      · exact .inr c
    · rintro ((a | b) | c)
      · exact .inl a
      · exact .inr (.inl b)
      · exact .inr (.inr c)
  · exact h.low z ((key z).2 (.inr hz))
  · have hc := h.cnt
    rw [hx] at hc
    rw [getD_set_same hp, List.length_append]
    simp only [List.length_cons, List.length_nil] at hc ⊢
    omega

/-- By neighbours: does a list rise? -/
theorem ris_of_next : ∀ {l : List Int}, (∀ i, i + 1 < l.length → l.getD i 0 < l.getD (i + 1) 0) → Ris l
  | [], _ => List.Pairwise.nil
  | [x], _ => by simp
  | x :: y :: r, h => by
    have h0 : x < y := by simpa using h 0 (by simp)
    have ih : Ris (y :: r) := ris_of_next fun i hi => by simpa using h (i + 1) (by simpa using hi)
    refine List.pairwise_cons.2 ⟨fun z hz => ?_, ih⟩
    rcases List.mem_cons.1 hz with e | e
    · omega
    · have := (List.pairwise_cons.1 ih).1 z e
      omega
theorem ris_at {l : List Int} (h : Ris l) {i j : Nat} (hij : i < j) (hj : j < l.length) : l.getD i 0 < l.getD j 0 := by
  have := List.pairwise_iff_getElem.1 h i j (by omega) hj hij
  simpa [List.getD, hj, Nat.lt_trans hij hj] using this
theorem not_ris {l : List Int} {i : Nat} (hi : i + 1 < l.length) (h : l.getD (i + 1) 0 ≤ l.getD i 0) : ¬ Ris l := fun hr => by
  have := ris_at hr (i := i) (j := i + 1) (by omega) hi
  omega
/-- How many numbers are below one. -/
def cb (l : List Int) (n : Int) : Nat := l.countP (fun x => decide (x < n))
theorem cb_le (l : List Int) (n : Int) : cb l n ≤ l.length := List.countP_le_length
/-- Of a rising list: those below stand ahead of the others. -/
theorem cb_split : ∀ {l : List Int}, Ris l → ∀ n, (∀ x ∈ l.take (cb l n), x < n) ∧ ∀ x ∈ l.drop (cb l n), n ≤ x
  | [], _, n => by simp [cb]
  | a :: l, h, n => by
    have h' := List.pairwise_cons.1 h
    have ih := cb_split h'.2 n
    by_cases ha : a < n
    · have e : cb (a :: l) n = cb l n + 1 := by simp [cb, ha]
      rw [e]
      refine ⟨fun x hx => ?_, fun x hx => ?_⟩
      · rw [List.take_succ_cons] at hx
        rcases List.mem_cons.1 hx with e | e
        · omega
        · exact ih.1 x e
      · rw [List.drop_succ_cons] at hx
        exact ih.2 x hx
    · have hz : ∀ x ∈ l, ¬ x < n := fun x hx => by have := h'.1 x hx; omega
      have e : cb (a :: l) n = 0 := by
        have : l.countP (fun x => decide (x < n)) = 0 := List.countP_eq_zero.2 fun x hx => by simpa using hz x hx
        simp [cb, ha, this]
      rw [e]
      refine ⟨by simp, fun x hx => ?_⟩
      rw [List.drop_zero] at hx
      rcases List.mem_cons.1 hx with e | e
      · omega
      · have := hz x e; omega
/-- By places: the first k are below, the next one is not. -/
theorem cb_is {l : List Int} {n : Int} (h : Ris l) {k : Nat} (hk : k ≤ l.length) (h1 : ∀ j, j < k → l.getD j 0 < n) (h2 : ∀ j, k ≤ j → j < l.length → n ≤ l.getD j 0) : cb l n = k := by
  refine Go.Lib.countP_split _ l k hk (fun j hj => by simpa using h1 j hj) (fun j hj hl => by simpa using h2 j hj hl)
theorem cb_at {l : List Int} (h : Ris l) (n : Int) : (∀ j, j < cb l n → l.getD j 0 < n) ∧ ∀ j, cb l n ≤ j → j < l.length → n ≤ l.getD j 0 := by
  obtain ⟨h1, h2⟩ := cb_split h n
  have hle := cb_le l n
  refine ⟨fun j hj => h1 _ ?_, fun j hj hl => h2 _ ?_⟩
  · rw [List.mem_take_iff_getElem]
    exact ⟨j, by omega, by simp [List.getD, show j < l.length by omega]⟩
  · rw [List.mem_drop_iff_getElem]
    exact ⟨j - cb l n, by omega, by simp only [show cb l n + (j - cb l n) = j by omega]; simp [List.getD, hl]⟩
end Go.Proofs.Ythdeifjnfcjaaaa
