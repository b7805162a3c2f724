/-
  A query that is cut off at a word, and one with more behind.
-/
import Derived.Test.YtefenbonjepjgaaGreatDoorCut
import Derived.Test.YtefenbonjepjgaaGreatDoorCul
namespace Go.Proofs.YtefenbonjepjgaaGreatDoor
set_option linter.unusedSimpArgs false
set_option linter.unusedVariables false

/-- Read well, or refused here, for this reason. -/
def SaysR {α : Type} (r : Res α) (a y : Int) : Prop := match r with
  | .ok _ _ => a = 0 ∧ y = 0
  | .bad a' y' => a = a' ∧ y = y'
theorem ends_ok {α : Type} {E : Nat} {r : Res α} {x : α} {M : List Tk} (h : endP E r = .ok x M) : r = .ok x [] := by
  obtain ⟨y, C, h1, h2⟩ := then_ok.1 h
  split at h2
  · rename_i hc
    cases h2
    rw [h1, hc]
  · cases h2
theorem parse_okQ {s : List UInt8} {x : Qy} {M : List Tk} (h : parseL s = .ok x M) : (lexL s).2.2 = 0 ∧ queryP s.length ((lexL s).1.length + 1) (lexL s).1 = .ok x [] := by
  unfold parseL at h
  split at h
  · exact ⟨‹_›, ends_ok h⟩
  · cases h
theorem parse_bad {s : List UInt8} {a : Nat} {y : Int} (h : parseL s = .bad a y) : y ≠ 0 := by
  unfold parseL at h
  split at h
  · have hl := late_query (E := s.length) (lexL s).1 (Nat.lt_succ_self _)
    cases hr : queryP s.length ((lexL s).1.length + 1) (lexL s).1 with
    | ok x C =>
      rw [hr] at h
      unfold endP Res.then at h
      dsimp only at h
      split at h
      · cases h
      · cases h
        decide
    | bad b z =>
      rw [hr] at h hl
      cases h
      obtain ⟨T, _, _, h0⟩ := hl
      omega
  · cases h
    assumption
theorem parse_words {s : List UInt8} {x : Qy} {M : List Tk} (h : parseL s = .ok x M) : (lexL s).1 ≠ [] := by
  intro e
  have := (parse_okQ h).2
  rw [e] at this
  cases this
/-- Cut off ahead of a word. -/
theorem parse_cut {s : List UInt8} {x : Qy} {M : List Tk} (h : parseL s = .ok x M) (i : Nat) (t : Tk) (ht : (lexL s).1[i]? = some t) {a y : Int} (hs : SaysR (parseL (s.take t.at')) a y) : t.at' < s.length ∧ (y = 0 ∨ y = 81 ∧ a = t.at') := by
  obtain ⟨h1, h2⟩ := parse_okQ h
  obtain ⟨hz, hx⟩ := lexL_lxs h1
  have hlt := (hx.ge t (List.mem_of_getElem? ht)).2
  have hc := (hx.cut i t ht).2.1
  rw [Nat.sub_zero] at hc
  have hlen : (s.take t.at').length = t.at' := by rw [List.length_take]; omega
  have hq := lxs_lexL hc (by rw [hlen]; omega)
  refine ⟨by omega, ?_⟩
  have hp : parseL (s.take t.at') = endP t.at' (queryP t.at' (((lexL s).1.take i).length + 1) ((lexL s).1.take i)) := by
    unfold parseL
    rw [hq, hlen, if_pos rfl]
  rw [hp] at hs
  have hk := cut_query (E := t.at') (E' := s.length) (R := (lexL s).1.drop i) (n := ((lexL s).1.take i).length + 1) (b := (lexL s).1.length + 1) ((lexL s).1.take i) (Nat.lt_succ_self _) (by rw [List.take_append_drop]; exact Nat.lt_succ_self _)
  rw [List.take_append_drop, h2] at hk
  cases hr : queryP t.at' (((lexL s).1.take i).length + 1) ((lexL s).1.take i) with
  | ok z C =>
    rw [hr] at hs hk
    by_cases hn : C = []
    · subst hn
      exact .inl hs.2
    · have := hk.2.1 hn
      injection this with _ e
      exact absurd (List.append_eq_nil_iff.1 e.symm).1 hn
  | bad b z =>
    rw [hr] at hs hk
    obtain ⟨rfl, rfl⟩ := hs
    rcases hk with ⟨_, e⟩ | ⟨e1, e2, _⟩
    · cases e
    · exact .inr ⟨e2, by rw [e1]⟩
/-- With more behind. -/
theorem parse_more {s more : List UInt8} {x : Qy} {M : List Tk} (h : parseL s = .ok x M) (hz : s.length + more.length + 1 ≤ 4096) (hm : (lexL more).2.2 = 0) {a y : Int} (hs : SaysR (parseL (s ++ 32 :: more)) a y) : y = 0 ∨ (s.length : Int) < a := by
  obtain ⟨h1, h2⟩ := parse_okQ h
  obtain ⟨_, hx⟩ := lexL_lxs h1
  obtain ⟨_, hy⟩ := lexL_lxs hm
  have hmv := hy.moved (0 + s.length + 1)
  rw [Nat.zero_add] at hmv
  have hj := hx.join (by rw [Nat.zero_add]; rw [show 0 + s.length + 1 = s.length + 1 by omega] at hmv; exact hmv)
  have hlen : (s ++ 32 :: more).length = s.length + more.length + 1 := by rw [List.length_append, List.length_cons]; omega
  have hq := lxs_lexL hj (by rw [hlen]; omega)
  generalize hR : (lexL more).1.map (mvT (s.length + 1)) = R at *
  have hpl : ∀ t ∈ R, s.length < t.at' := by
    intro t ht
    rw [← hR] at ht
    obtain ⟨u, _, rfl⟩ := List.mem_map.1 ht
    show s.length < u.at' + (s.length + 1)
    omega
  have hp : parseL (s ++ 32 :: more) = endP (s.length + more.length + 1) (queryP (s.length + more.length + 1) (((lexL s).1 ++ R).length + 1) ((lexL s).1 ++ R)) := by
    unfold parseL
    rw [hq, hlen, if_pos rfl]
  rw [hp] at hs
  have hk := cut_query (E := s.length) (E' := s.length + more.length + 1) (R := R) (n := (lexL s).1.length + 1) (b := ((lexL s).1 ++ R).length + 1) (lexL s).1 (Nat.lt_succ_self _) (Nat.lt_succ_self _)
  rw [h2] at hk
  have hl := hk.2.2 rfl
  have hT : ∀ S, S <:+ R → s.length < placeL (s.length + more.length + 1) S := by
    intro S hS
    cases S with
    | nil => show s.length < s.length + more.length + 1; omega
    | cons t S => exact hpl t (hS.subset (List.mem_cons_self ..))
  cases hr : queryP (s.length + more.length + 1) (((lexL s).1 ++ R).length + 1) ((lexL s).1 ++ R) with
  | ok z C =>
    rw [hr] at hs hl
    have hc := hT C hl
    unfold endP Res.then at hs
    dsimp only at hs
    split at hs
    · exact .inl hs.2
    · obtain ⟨rfl, _⟩ := hs
      exact .inr (by omega)
  | bad b z =>
    rw [hr] at hs hl
    obtain ⟨rfl, _⟩ := hs
    obtain ⟨T, t1, t2, _⟩ := hl
    have := hT T t1
    exact .inr (by omega)
end Go.Proofs.YtefenbonjepjgaaGreatDoor
