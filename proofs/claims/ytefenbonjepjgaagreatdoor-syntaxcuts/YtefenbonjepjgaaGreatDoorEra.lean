/-
  Words cut off, or with more behind: each reader looks one word ahead, so what it made of the words up to there stands.
  The words of a text that is cut off at a word, and of a text with a blank and another behind.
  A query that is cut off at a word, and one with more behind.
  A tree does not hang on the places of words: readers of words without their places come to the same.
-/
import Derived.Test.YtefenbonjepjgaaGreatDoorSyl
import Derived.Test.YtefenbonjepjgaaGreatDoorLxp
namespace Go.Proofs.YtefenbonjepjgaaGreatDoor
set_option linter.unusedSimpArgs false
set_option linter.unusedVariables false

/-- What is left over is an end of the words, or the place of the fault is one of theirs, or their end. -/
def Late {α : Type} (E : Nat) (S : List Tk) : Res α → Prop
  | .ok _ C => C <:+ S
  | .bad a y => ∃ T, T <:+ S ∧ a = placeL E T ∧ 0 < y
/-- What a reader makes of words, and of the same with others behind. -/
def CutR {α : Type} (E E' : Nat) (R L : List Tk) (r r' : Res α) : Prop :=
  match r with
  | .ok x C => C <:+ L ∧ (C ≠ [] → r' = .ok x (C ++ R)) ∧ (C = [] → Late E' R r')
  | .bad a y => (L ≠ [] ∧ r' = .bad a y) ∨ (a = E ∧ y = 81 ∧ Late E' R r')
/-- Comes to the end of the words, be it well or not. -/
def EndR {α : Type} (E : Nat) : Res α → Prop
  | .ok _ C => C = []
  | .bad a y => a = E ∧ y = 81
section
variable {α β : Type} {E E' : Nat} {R L S : List Tk}
theorem suf_tail (L : List Tk) : L.tail <:+ L := List.tail_suffix L
theorem Late.of {T : List Tk} {r : Res α} (h : Late E T r) (ht : T <:+ S) : Late E S r := by
  cases r with
  | ok x C => exact List.IsSuffix.trans h ht
  | bad a y =>
    obtain ⟨U, h1, h2⟩ := h
    exact ⟨U, h1.trans ht, h2⟩
theorem late_ok (x : α) {C : List Tk} (h : C <:+ S) : Late E S (.ok x C) := h
theorem late_bad {T : List Tk} (y : Int) (h : T <:+ S) (hy : 0 < y := by decide) : Late (α := α) E S (.bad (placeL E T) y) := ⟨T, h, rfl, hy⟩
theorem Late.then {r : Res α} {f : α → List Tk → Res β} (h : Late E S r) (hf : ∀ x T, T <:+ S → Late E T (f x T)) : Late E S (r.then f) := by
  cases r with
  | ok x C => exact (hf x C h).of h
  | bad a y => exact h
theorem late_ite {c : Prop} [Decidable c] {a b : Res α} (ha : c → Late E S a) (hb : ¬ c → Late E S b) : Late E S (if c then a else b) := by
  split
  · exact ha ‹_›
  · exact hb ‹_›
theorem CutR.end {r r' : Res α} (h : CutR E E' R [] r r') : EndR E r := by
  cases r with
  | ok x C => exact List.suffix_nil.1 h.1
  | bad a y =>
    rcases h with ⟨h, _⟩ | ⟨h1, h2, _⟩
    · exact absurd rfl h
    · exact ⟨h1, h2⟩
theorem cut_end {r r' : Res α} (h : EndR E r) (hl : Late E' R r') : CutR E E' R L r r' := by
  cases r with
  | ok x C =>
    cases (h : C = [])
    exact ⟨List.nil_suffix, fun h => absurd rfl h, fun _ => hl⟩
  | bad a y => exact .inr ⟨h.1, h.2, hl⟩
theorem CutR.of {M : List Tk} {r r' : Res α} (h : CutR E E' R M r r') (hm : M <:+ L) : CutR E E' R L r r' := by
  cases r with
  | ok x C => exact ⟨h.1.trans hm, h.2⟩
  | bad a y =>
    rcases h with ⟨h1, h2⟩ | h
    · refine .inl ⟨fun e => h1 ?_, h2⟩
      subst e
      exact List.suffix_nil.1 hm
    · exact .inr h
theorem CutR.then {r r' : Res α} {f f' : α → List Tk → Res β} (h : CutR E E' R L r r') (hf : ∀ x C, C <:+ L → CutR E E' R C (f x C) (f' x (C ++ R))) (hl : ∀ x S, S <:+ R → Late E' S (f' x S)) : CutR E E' R L (r.then f) (r'.then f') := by
  cases r with
  | ok x C =>
    by_cases hc : C = []
    · subst hc
      exact cut_end (hf x [] List.nil_suffix).end ((h.2.2 rfl).then hl)
    · rw [h.2.1 hc]
      exact (hf x C h.1).of h.1
  | bad a y =>
    rcases h with ⟨h1, h2⟩ | ⟨h1, h2, h3⟩
    · rw [h2]
      exact .inl ⟨h1, rfl⟩
    · exact .inr ⟨h1, h2, h3.then hl⟩
theorem CutR.then' {r r' : Res α} {f f' : α → List Tk → Res β} (h : CutR E E' R L r r') (hf : ∀ x C, r = .ok x C → C <:+ L → CutR E E' R C (f x C) (f' x (C ++ R))) (hl : ∀ x S, S <:+ R → Late E' S (f' x S)) : CutR E E' R L (r.then f) (r'.then f') := by
  cases r with
  | ok x C =>
    by_cases hc : C = []
    · subst hc
      exact cut_end (hf x [] rfl List.nil_suffix).end ((h.2.2 rfl).then hl)
    · rw [h.2.1 hc]
      exact (hf x C rfl h.1).of h.1
  | bad a y =>
    rcases h with ⟨h1, h2⟩ | ⟨h1, h2, h3⟩
    · rw [h2]
      exact .inl ⟨h1, rfl⟩
    · exact .inr ⟨h1, h2, h3.then hl⟩
theorem cut_ok (x : α) {C : List Tk} (h : C <:+ L) (hl : C = [] → Late (α := α) E' R (.ok x (C ++ R))) : CutR E E' R L (.ok x C) (.ok x (C ++ R)) := ⟨h, fun _ => rfl, hl⟩
theorem cut_ok' (x : α) {C : List Tk} (h : C <:+ L) : CutR E E' R L (.ok x C) (.ok x (C ++ R)) := cut_ok x h fun e => by subst e; exact List.suffix_refl _
/-- Where a word stands ahead, both look at it alike. -/
theorem cut_ite {c c' : Prop} [Decidable c] [Decidable c'] {a b a' b' : Res α} (hc : L ≠ [] → (c' ↔ c)) (h0 : L = [] → EndR E (if c then a else b)) (hl : L = [] → Late E' R (if c' then a' else b'))
    (ha : L ≠ [] → c → CutR E E' R L a a') (hb : L ≠ [] → ¬ c → CutR E E' R L b b') : CutR E E' R L (if c then a else b) (if c' then a' else b') := by
  by_cases hn : L = []
  · exact cut_end (h0 hn) (hl hn)
  · have := hc hn
    by_cases h : c
    · rw [if_pos h, if_pos (this.2 h)]
      exact ha hn h
    · rw [if_neg h, if_neg fun k => h (this.1 k)]
      exact hb hn h
theorem isW_app (s : List UInt8) (hn : L ≠ []) : isW s (L ++ R) = isW s L := by
  cases L with
  | nil => exact absurd rfl hn
  | cons t L => rfl
theorem isW_iff (s : List UInt8) (hn : L ≠ []) : isW s (L ++ R) = true ↔ isW s L = true := by rw [isW_app s hn]
theorem kind_app (hn : L ≠ []) : kindL (L ++ R) = kindL L := by
  cases L with
  | nil => exact absurd rfl hn
  | cons t L => rfl
theorem head_app (hn : L ≠ []) : headL E' (L ++ R) = headL E L := by
  cases L with
  | nil => exact absurd rfl hn
  | cons t L => rfl
theorem place_app (hn : L ≠ []) : placeL E' (L ++ R) = placeL E L := by
  cases L with
  | nil => exact absurd rfl hn
  | cons t L => rfl
theorem op_app (ops : List (List UInt8 × Int)) (hn : L ≠ []) : opOf ops (L ++ R) = opOf ops L := by
  unfold opOf
  have : (fun o : List UInt8 × Int => isW o.1 (L ++ R)) = fun o => isW o.1 L := funext fun o => isW_app _ hn
  rw [this]
theorem tail_app (hn : L ≠ []) : (L ++ R).tail = L.tail ++ R := by
  cases L with
  | nil => exact absurd rfl hn
  | cons t L => rfl
theorem op_nil (ops : List (List UInt8 × Int)) : opOf ops [] = 0 := by
  unfold opOf
  have : ops.find? (fun o => isW o.1 []) = none := List.find?_eq_none.2 fun o _ => by simp [isW]
  rw [this]
theorem ne_of_isW {s : List UInt8} (h : isW s L = true) : L ≠ [] := by
  intro e
  subst e
  cases h
theorem ne_of_op {ops : List (List UInt8 × Int)} (h : ¬ opOf ops L = 0) : L ≠ [] := by
  intro e
  subst e
  exact h (op_nil ops)
theorem cut_badw (hn : L ≠ []) (y : Int) : CutR (α := α) E E' R L (.bad (placeL E L) y) (.bad (placeL E' (L ++ R)) y) := by
  rw [place_app (E := E) hn]
  exact .inl ⟨hn, rfl⟩
theorem tail_lt (hn : L ≠ []) : L.tail.length < L.length := by
  cases L with
  | nil => exact absurd rfl hn
  | cons t L => simp

theorem late_must (s : List UInt8) (S : List Tk) : Late E S (mustL E s S) := late_ite (fun _ => late_ok _ (suf_tail S)) (fun _ => late_bad _ (List.suffix_refl _))
theorem cut_must (s : List UInt8) (L : List Tk) : CutR E E' R L (mustL E s L) (mustL E' s (L ++ R)) :=
  cut_ite (isW_iff s) (fun e => by subst e; exact ⟨rfl, rfl⟩) (fun e => by subst e; exact late_must s R)
    (fun hn _ => by rw [tail_app hn]; exact cut_ok' _ (suf_tail L)) (fun hn _ => cut_badw hn _)
theorem late_musts : ∀ (l : List (List UInt8)) (S : List Tk), Late E S (mustsL E l S)
  | [], S => late_ok _ (List.suffix_refl _)
  | s :: r, S => (late_must s S).then fun _ T _ => late_musts r T
theorem cut_musts : ∀ (l : List (List UInt8)) (L : List Tk), CutR E E' R L (mustsL E l L) (mustsL E' l (L ++ R))
  | [], L => cut_ok' _ (List.suffix_refl _)
  | s :: r, L => (cut_must s L).then (fun _ C _ => cut_musts r C) fun _ S _ => late_musts r S
theorem late_name (S : List Tk) : Late E S (nameP E S) := late_ite (fun _ => late_ok _ (suf_tail S)) (fun _ => late_bad _ (List.suffix_refl _))
theorem cut_name (L : List Tk) : CutR E E' R L (nameP E L) (nameP E' (L ++ R)) :=
  cut_ite (fun hn => by rw [kind_app hn]) (fun e => by subst e; exact ⟨rfl, rfl⟩) (fun e => by subst e; exact late_name R)
    (fun hn _ => by rw [tail_app hn, head_app (E := E) hn]; exact cut_ok' _ (suf_tail L)) (fun hn _ => cut_badw hn _)
theorem late_num (lo hi : Int) (S : List Tk) : Late E S (numP E lo hi S) := late_ite (fun _ => late_ok _ (suf_tail S)) (fun _ => late_bad _ (List.suffix_refl _))
theorem cut_num (lo hi : Int) (L : List Tk) : CutR E E' R L (numP E lo hi L) (numP E' lo hi (L ++ R)) :=
  cut_ite (fun hn => by rw [kind_app hn, head_app (E := E) hn]) (fun e => by
      subst e
      rw [if_neg (by intro h; exact absurd h.1 (by decide))]
      exact ⟨rfl, rfl⟩) (fun e => by subst e; exact late_num lo hi R)
    (fun hn _ => by rw [tail_app hn, head_app (E := E) hn]; exact cut_ok' _ (suf_tail L)) (fun hn _ => cut_badw hn _)
end

/-- Of fewer words than b: ends or places of theirs. -/
def LP (E b : Nat) (p : PR) : Prop := ∀ d S, S.length < b → Late E S (p d S)
/-- Of fewer words than n, and than b with those behind. -/
def CP (E E' : Nat) (R : List Tk) (n b : Nat) (p p' : PR) : Prop := ∀ d L, L.length < n → (L ++ R).length < b → CutR E E' R L (p d L) (p' d (L ++ R))
section
variable {E E' n b : Nat} {R : List Tk} {p p' e e' m m' : PR}
theorem suf_lt {b : Nat} {S T : List Tk} (h : T <:+ S) (hs : S.length < b) : T.length < b := Nat.lt_of_le_of_lt h.length_le hs
theorem app_lt {b : Nat} {S T : List Tk} (h : T <:+ S) (hs : (S ++ R).length < b) : (T ++ R).length < b := by
  have := h.length_le
  rw [List.length_append] at hs ⊢
  omega
theorem suf_lt' {b : Nat} {S T : List Tk} (hR : S <:+ R) (hs : (T ++ R).length < b) : S.length < b := by
  have := hR.length_le
  rw [List.length_append] at hs
  omega
theorem late_deep (h : LP E b p) (d : Nat) (S : List Tk) (hn : S ≠ []) (hs : S.length < b + 1) : Late E S (deepP E p d S) :=
  late_ite (fun _ => late_bad _ (List.suffix_refl _)) (fun _ => (h _ _ (by have := tail_lt hn; omega)).of (suf_tail S))
theorem cut_deep (h : CP E E' R n b p p') (d : Nat) (L : List Tk) (hn : L ≠ []) (hl : L.length < n + 1) (hs : (L ++ R).length < b + 1) : CutR E E' R L (deepP E p d L) (deepP E' p' d (L ++ R)) :=
  cut_ite (fun _ => Iff.rfl) (fun e => absurd e hn) (fun e => absurd e hn) (fun _ _ => cut_badw hn _) (fun _ _ => by
    have ht := tail_lt hn
    rw [tail_app hn]
    refine (h _ _ (by omega) ?_).of (suf_tail L)
    rw [List.length_append] at hs ⊢
    omega)
theorem LP.inside (h : LP E b p) : LP E (b + 1) (insideP E p) := fun d S hs =>
  late_ite (fun hw => (late_deep h d S (ne_of_isW hw) hs).then fun x T ht => (late_must _ T).then fun _ U _ => late_ok _ (List.suffix_refl _)) (fun _ => late_bad _ (List.suffix_refl _))
theorem CP.inside (h : CP E E' R n b p p') (hl : LP E' b p') : CP E E' R (n + 1) (b + 1) (insideP E p) (insideP E' p') := fun d L h1 h2 =>
  cut_ite (isW_iff _) (fun e => by subst e; exact ⟨rfl, rfl⟩) (fun e => by subst e; exact hl.inside d R h2)
    (fun hn _ => (cut_deep h d L hn h1 h2).then (fun x C _ => (cut_must _ C).then (fun _ D _ => cut_ok' _ (List.suffix_refl _)) fun _ S _ => late_ok _ (List.suffix_refl _)) fun x S _ => (late_must _ S).then fun _ U _ => late_ok _ (List.suffix_refl _))
    (fun hn _ => cut_badw hn _)
theorem late_levelG (ops : List (List UInt8 × Int)) (h : LP E b p) (d : Nat) : ∀ (k : Nat) (x : Ex) (S : List Tk), S.length < b → Late E S (levelG ops p d k x S)
  | 0, x, S, _ => late_ok _ (List.suffix_refl _)
  | k + 1, x, S, hs => late_ite (fun _ => late_ok _ (List.suffix_refl _)) (fun _ => ((h d S.tail (suf_lt (suf_tail S) hs)).of (suf_tail S)).then fun y T ht => late_levelG ops h d k _ T (suf_lt ht hs))
theorem LP.level (ops : List (List UInt8 × Int)) (h : LP E b p) : LP E b (levelP ops p) := fun d S hs => (h d S hs).then fun x T ht => late_levelG ops h d _ _ T (suf_lt ht hs)
theorem cut_levelG (ops : List (List UInt8 × Int)) (h : CP E E' R n b p p') (hl : LP E' b p') (d : Nat) : ∀ (k k' : Nat) (x : Ex) (L : List Tk), L.length ≤ k → (L ++ R).length ≤ k' → L.length < n → (L ++ R).length < b →
    CutR E E' R L (levelG ops p d k x L) (levelG ops p' d k' x (L ++ R))
  | 0, k', x, L, g1, g2, h1, h2 => by
    have : L = [] := List.length_eq_zero_iff.1 (by omega)
    subst this
    exact cut_end (by exact rfl) (late_levelG ops hl d k' x R h2)
  | k + 1, 0, x, L, g1, g2, h1, h2 => by
    have : L ++ R = [] := List.length_eq_zero_iff.1 (by omega)
    obtain ⟨rfl, rfl⟩ := List.append_eq_nil_iff.1 this
    refine cut_end ?_ (late_levelG ops hl d 0 x [] h2)
    rw [levelG, if_pos (op_nil ops)]
    exact rfl
  | k + 1, k' + 1, x, L, g1, g2, h1, h2 =>
    cut_ite (fun hn => by rw [op_app ops hn]) (fun e => by subst e; rw [if_pos (op_nil ops)]; exact rfl) (fun e => by subst e; exact late_levelG ops hl d (k' + 1) x R h2)
      (fun _ _ => cut_ok' _ (List.suffix_refl _)) (fun hn _ => by
        have ht := tail_lt hn
        rw [tail_app hn, op_app ops hn]
        refine CutR.of (CutR.then (h d L.tail (by omega) (app_lt (suf_tail L) h2)) (fun y C hC => ?_) fun y S hS => late_levelG ops hl d k' _ S (suf_lt' hS h2)) (suf_tail L)
        have hk := hC.length_le
        exact cut_levelG ops h hl d k k' _ C (by omega) (by rw [List.length_append] at g2 ⊢; omega) (by omega) (by rw [List.length_append] at h2 ⊢; omega))
theorem CP.level (ops : List (List UInt8 × Int)) (h : CP E E' R n b p p') (hl : LP E' b p') : CP E E' R n b (levelP ops p) (levelP ops p') := fun d L h1 h2 =>
  (h d L h1 h2).then (fun x C hC => cut_levelG ops h hl d _ _ x C (Nat.le_refl _) (Nat.le_refl _) (suf_lt hC h1) (app_lt hC h2)) fun x S hS => late_levelG ops hl d _ _ S (suf_lt' hS h2)
theorem LP.count (h : LP E b e) : LP E b (countP E e) := fun d S hs => late_ite (fun _ => late_ok _ (suf_tail S)) (fun _ => (h d S hs).then fun x T ht => late_ok _ (List.suffix_refl _))
theorem CP.count (h : CP E E' R n b e e') (hl : LP E' b e') (hn0 : 0 < n) : CP E E' R n b (countP E e) (countP E' e') := fun d L h1 h2 =>
  cut_ite (isW_iff _) (fun k => by
      subst k
      exact ((h d [] h1 h2).then (f := fun x L => .ok (Ex.one 22 x) L) (f' := fun x L => .ok (Ex.one 22 x) L) (fun x C _ => cut_ok' _ (List.suffix_refl _)) fun x S _ => late_ok _ (List.suffix_refl _)).end)
    (fun k => by subst k; exact hl.count d R h2)
    (fun hn _ => by rw [tail_app hn]; exact cut_ok' _ (suf_tail L)) (fun hn _ => (h d L h1 h2).then (fun x C _ => cut_ok' _ (List.suffix_refl _)) fun x S _ => late_ok _ (List.suffix_refl _))
theorem LP.keyed (h : LP E b e) : LP E (b + 1) (keyedP E e) := fun d S hs =>
  have ht : S.tail.length < b + 1 := suf_lt (suf_tail S) hs
  late_ite (fun _ => late_ok _ (suf_tail S)) (fun _ => late_ite (fun _ => late_ok _ (suf_tail S)) (fun _ => late_ite (fun _ => late_ok _ (suf_tail S)) (fun _ => late_ite (fun _ => (h.count.inside d S.tail ht).of (suf_tail S))
    (fun _ => late_ite (fun _ => late_bad _ (List.suffix_refl _)) (fun _ => ((h.inside d S.tail ht).of (suf_tail S)).then fun x T _ => late_ok _ (List.suffix_refl _))))))
theorem CP.keyed (h : CP E E' R n b e e') (hl : LP E' b e') : CP E E' R (n + 1) (b + 1) (keyedP E e) (keyedP E' e') := fun d L h1 h2 => by
  by_cases hn : L = []
  · subst hn
    exact cut_end (by unfold keyedP; rw [if_neg (by decide), if_neg (by decide), if_neg (by decide), if_neg (by decide), if_pos (op_nil opsK)]; exact ⟨rfl, rfl⟩) (hl.keyed d R h2)
  · have h1' := suf_lt (suf_tail L) h1
    have h2' := app_lt (suf_tail L) h2
    unfold keyedP
    rw [tail_app hn, op_app opsK hn]
    refine cut_ite (isW_iff _) (fun k => absurd k hn) (fun k => absurd k hn) (fun _ _ => cut_ok' _ (suf_tail L)) fun _ _ => ?_
    refine cut_ite (isW_iff _) (fun k => absurd k hn) (fun k => absurd k hn) (fun _ _ => cut_ok' _ (suf_tail L)) fun _ _ => ?_
    refine cut_ite (isW_iff _) (fun k => absurd k hn) (fun k => absurd k hn) (fun _ _ => cut_ok' _ (suf_tail L)) fun _ _ => ?_
    have hn0 : 0 < n := by have := tail_lt hn; omega
    refine cut_ite (isW_iff _) (fun k => absurd k hn) (fun k => absurd k hn) (fun _ _ => ((h.count hl hn0).inside hl.count d L.tail h1' h2').of (suf_tail L)) fun _ _ => ?_
    exact cut_ite (fun _ => Iff.rfl) (fun k => absurd k hn) (fun k => absurd k hn) (fun _ _ => cut_badw hn _) fun _ _ =>
      ((h.inside hl d L.tail h1' h2').of (suf_tail L)).then (fun x C _ => cut_ok' _ (List.suffix_refl _)) fun x S _ => late_ok _ (List.suffix_refl _)
theorem late_named (d : Nat) (S : List Tk) : Late E S (namedP E d S) := (late_name S).then fun x T _ => late_ite (fun _ => ((late_name T.tail).of (suf_tail T)).then fun y U _ => late_ok _ (List.suffix_refl _)) (fun _ => late_ok _ (List.suffix_refl _))
theorem cut_named (d : Nat) (L : List Tk) : CutR E E' R L (namedP E d L) (namedP E' d (L ++ R)) :=
  (cut_name L).then (fun x C _ => cut_ite (isW_iff _) (fun k => by subst k; exact rfl) (fun k => by
      subst k
      exact late_ite (fun _ => ((late_name R.tail).of (suf_tail R)).then fun y U _ => late_ok _ (List.suffix_refl _)) (fun _ => late_ok _ (List.suffix_refl _)))
    (fun hn _ => by
      rw [tail_app hn]
      exact ((cut_name C.tail).of (suf_tail C)).then (fun y D _ => cut_ok' _ (List.suffix_refl _)) fun y S _ => late_ok _ (List.suffix_refl _))
    (fun _ _ => cut_ok' _ (List.suffix_refl _))) fun x T _ => late_ite (fun _ => ((late_name T.tail).of (suf_tail T)).then fun y U _ => late_ok _ (List.suffix_refl _)) (fun _ => late_ok _ (List.suffix_refl _))
theorem LP.plain (h : LP E b e) : LP E (b + 1) (plainP E e) := fun d S hs =>
  late_ite (fun _ => late_ok _ (suf_tail S)) (fun _ => late_ite (fun _ => late_ok _ (suf_tail S)) (fun _ => late_ite (fun _ => late_named d S) (fun _ => late_ite (fun _ => h.keyed d S hs) (fun _ => h.inside d S hs))))
theorem CP.plain (h : CP E E' R n b e e') (hl : LP E' b e') : CP E E' R (n + 1) (b + 1) (plainP E e) (plainP E' e') := fun d L h1 h2 => by
  by_cases hn : L = []
  · subst hn
    exact cut_end (by unfold plainP; rw [if_neg (by decide), if_neg (by decide), if_neg (by decide), if_neg (by decide)]; exact ⟨rfl, rfl⟩) (hl.plain d R h2)
  · unfold plainP
    rw [kind_app hn, tail_app hn, head_app (E := E) hn]
    refine cut_ite (fun _ => Iff.rfl) (fun k => absurd k hn) (fun k => absurd k hn) (fun _ _ => cut_ok' _ (suf_tail L)) fun _ _ => ?_
    refine cut_ite (fun _ => Iff.rfl) (fun k => absurd k hn) (fun k => absurd k hn) (fun _ _ => cut_ok' _ (suf_tail L)) fun _ _ => ?_
    refine cut_ite (fun _ => Iff.rfl) (fun k => absurd k hn) (fun k => absurd k hn) (fun _ _ => cut_named d L) fun _ _ => ?_
    exact cut_ite (fun _ => Iff.rfl) (fun k => absurd k hn) (fun k => absurd k hn) (fun _ _ => h.keyed hl d L h1 h2) fun _ _ => h.inside hl d L h1 h2
theorem LP.minus (hm : LP E b m) (he : LP E b e) : LP E (b + 1) (minusP E m e) := fun d S hs =>
  late_ite (fun hw => (late_deep hm d S (ne_of_isW hw) hs).then fun x T _ => late_ok _ (List.suffix_refl _)) (fun _ => he.plain d S hs)
theorem CP.minus (hm : CP E E' R n b m m') (lm : LP E' b m') (he : CP E E' R n b e e') (le : LP E' b e') : CP E E' R (n + 1) (b + 1) (minusP E m e) (minusP E' m' e') := fun d L h1 h2 =>
  cut_ite (isW_iff _) (fun k => by subst k; exact (he.plain le d [] h1 h2).end) (fun k => by subst k; exact lm.minus le d R h2)
    (fun hn _ => (cut_deep hm d L hn h1 h2).then (fun x C _ => cut_ok' _ (List.suffix_refl _)) fun x S _ => late_ok _ (List.suffix_refl _)) fun hn _ => he.plain le d L h1 h2
theorem LP.sum (h : LP E b m) : LP E b (sumP m) := LP.level _ (LP.level _ h)
theorem CP.sum (h : CP E E' R n b m m') (hl : LP E' b m') : CP E E' R n b (sumP m) (sumP m') := CP.level _ (CP.level _ h hl) (LP.level _ hl)
/-- Behind a sum. -/
def testQ (E : Nat) (m : PR) (d : Nat) (x : Ex) (L : List Tk) : Res Ex :=
  if isW [73, 83] L then
    if isW [78, 79, 84] L.tail then (mustL E [78, 85, 76, 76] L.tail.tail).then fun _ L => .ok (.one 20 x) L
    else (mustL E [78, 85, 76, 76] L.tail).then fun _ L => .ok (.one 19 x) L
  else if opOf opsT L = 0 then .ok x L
  else (sumP m d L.tail).then fun y L' => .ok (.two (opOf opsT L) x y) L'
theorem late_not (x : Ex) (S : List Tk) : Late E S (if isW [78, 79, 84] S then (mustL E [78, 85, 76, 76] S.tail).then fun _ L => .ok (Ex.one 20 x) L else (mustL E [78, 85, 76, 76] S).then fun _ L => .ok (.one 19 x) L) :=
  late_ite (fun _ => ((late_must _ S.tail).of (suf_tail S)).then fun _ T _ => late_ok _ (List.suffix_refl _)) (fun _ => (late_must _ S).then fun _ T _ => late_ok _ (List.suffix_refl _))
theorem LP.testQ (h : LP E b m) (d : Nat) (x : Ex) (S : List Tk) (hs : S.length < b) : Late E S (testQ E m d x S) :=
  late_ite (fun _ => (late_not x S.tail).of (suf_tail S)) (fun _ => late_ite (fun _ => late_ok _ (List.suffix_refl _)) (fun _ => ((h.sum d S.tail (suf_lt (suf_tail S) hs)).of (suf_tail S)).then fun y T _ => late_ok _ (List.suffix_refl _)))
theorem CP.testQ (h : CP E E' R n b m m') (hl : LP E' b m') (d : Nat) (x : Ex) (L : List Tk) (h1 : L.length < n) (h2 : (L ++ R).length < b) : CutR E E' R L (testQ E m d x L) (testQ E' m' d x (L ++ R)) := by
  by_cases hn : L = []
  · subst hn
    exact cut_end (by unfold Go.Proofs.YtefenbonjepjgaaGreatDoor.testQ; rw [if_neg (by decide), if_pos (op_nil opsT)]; exact rfl) (hl.testQ d x R h2)
  · unfold Go.Proofs.YtefenbonjepjgaaGreatDoor.testQ
    rw [tail_app hn, op_app opsT hn]
    refine cut_ite (isW_iff _) (fun k => absurd k hn) (fun k => absurd k hn) (fun _ _ => CutR.of (cut_ite (isW_iff _) (fun k => by rw [k]; exact ⟨rfl, rfl⟩) (fun k => by rw [k]; exact late_not x R) (fun ht _ => ?_) fun _ _ => ?_) (suf_tail L)) fun _ _ => ?_
    · rw [tail_app ht]
      exact ((cut_must _ L.tail.tail).of (suf_tail _)).then (fun _ C _ => cut_ok' _ (List.suffix_refl _)) fun _ S _ => late_ok _ (List.suffix_refl _)
    · exact (cut_must _ L.tail).then (fun _ C _ => cut_ok' _ (List.suffix_refl _)) fun _ S _ => late_ok _ (List.suffix_refl _)
    · exact cut_ite (fun _ => Iff.rfl) (fun k => absurd k hn) (fun k => absurd k hn) (fun _ _ => cut_ok' _ (List.suffix_refl _)) fun _ _ =>
        ((h.sum hl d L.tail (suf_lt (suf_tail L) h1) (app_lt (suf_tail L) h2)).of (suf_tail L)).then (fun x C _ => cut_ok' _ (List.suffix_refl _)) fun x S _ => late_ok _ (List.suffix_refl _)
theorem LP.test (h : LP E b m) : LP E b (testP E m) := fun d S hs => (h.sum d S hs).then fun x T hT => h.testQ d x T (suf_lt hT hs)
theorem CP.test (h : CP E E' R n b m m') (hl : LP E' b m') : CP E E' R n b (testP E m) (testP E' m') := fun d L h1 h2 =>
  (h.sum hl d L h1 h2).then (fun x C hC => h.testQ hl d x C (suf_lt hC h1) (app_lt hC h2)) fun x S hS => hl.testQ d x S (suf_lt' hS h2)
theorem LP.deny (hp : LP E b p) (hm : LP E (b + 1) m) : LP E (b + 1) (denyP E p m) := fun d S hs =>
  late_ite (fun hw => (late_deep hp d S (ne_of_isW hw) hs).then fun x T _ => late_ok _ (List.suffix_refl _)) (fun _ => hm.test d S hs)
theorem CP.deny (hp : CP E E' R n b p p') (lp : LP E' b p') (hm : CP E E' R (n + 1) (b + 1) m m') (lm : LP E' (b + 1) m') : CP E E' R (n + 1) (b + 1) (denyP E p m) (denyP E' p' m') := fun d L h1 h2 =>
  cut_ite (isW_iff _) (fun k => by subst k; exact (hm.test lm d [] h1 h2).end) (fun k => by subst k; exact lp.deny lm d R h2)
    (fun hn _ => (cut_deep hp d L hn h1 h2).then (fun x C _ => cut_ok' _ (List.suffix_refl _)) fun x S _ => late_ok _ (List.suffix_refl _)) fun hn _ => hm.test lm d L h1 h2
theorem LP.expr (h : LP E b p) : LP E b (exprP p) := LP.level _ (LP.level _ h)
theorem CP.expr (h : CP E E' R n b p p') (hl : LP E' b p') : CP E E' R n b (exprP p) (exprP p') := CP.level _ (CP.level _ h hl) (LP.level _ hl)
end
theorem lp_lay (E : Nat) : ∀ n, LP E n (lay E n).1 ∧ LP E n (lay E n).2.1 ∧ LP E n (lay E n).2.2
  | 0 => ⟨fun d S h => absurd h (Nat.not_lt_zero _), fun d S h => absurd h (Nat.not_lt_zero _), fun d S h => absurd h (Nat.not_lt_zero _)⟩
  | n + 1 => by
    obtain ⟨h1, h2, h3⟩ := lp_lay E n
    exact ⟨h1.minus h3, h2.deny (h1.minus h3), (h2.deny (h1.minus h3)).expr⟩
theorem cp_lay (E E' : Nat) (R : List Tk) : ∀ n b, CP E E' R n b (lay E n).1 (lay E' b).1 ∧ CP E E' R n b (lay E n).2.1 (lay E' b).2.1 ∧ CP E E' R n b (lay E n).2.2 (lay E' b).2.2
  | 0, _ => ⟨fun d L h => absurd h (Nat.not_lt_zero _), fun d L h => absurd h (Nat.not_lt_zero _), fun d L h => absurd h (Nat.not_lt_zero _)⟩
  | n + 1, 0 => ⟨fun d L _ h => absurd h (Nat.not_lt_zero _), fun d L _ h => absurd h (Nat.not_lt_zero _), fun d L _ h => absurd h (Nat.not_lt_zero _)⟩
  | n + 1, b + 1 => by
    obtain ⟨h1, h2, h3⟩ := cp_lay E E' R n b
    obtain ⟨l1, l2, l3⟩ := lp_lay E' b
    have m := h1.minus l1 h3 l3
    have lm := l1.minus l3
    have q := h2.deny l2 m lm
    exact ⟨m, q, q.expr (l2.deny lm)⟩

section
variable {E E' n b : Nat} {R : List Tk}
theorem late_exprA (S : List Tk) (h : S.length < n) : Late E S (exprA E n S) := (lp_lay E n).2.2 0 S h
theorem cut_exprA (L : List Tk) (h1 : L.length < n) (h2 : (L ++ R).length < b) : CutR E E' R L (exprA E n L) (exprA E' b (L ++ R)) := (cp_lay E E' R n b).2.2 0 L h1 h2
/-- Behind a name, or none. -/
def naQ (E : Nat) (v : List UInt8) (L : List Tk) : Res (List UInt8 × List UInt8) := if isW [58] L then (nameP E L.tail).then fun l L' => .ok (v, l) L' else .ok (v, []) L
theorem na_eq (L : List Tk) : naP E L = naQ E (passNameP E L).1 (passNameP E L).2 := rfl
theorem late_naQ (v : List UInt8) (S : List Tk) : Late E S (naQ E v S) := late_ite (fun _ => ((late_name S.tail).of (suf_tail S)).then fun y T _ => late_ok _ (List.suffix_refl _)) (fun _ => late_ok _ (List.suffix_refl _))
theorem cut_naQ (v : List UInt8) (L : List Tk) : CutR E E' R L (naQ E v L) (naQ E' v (L ++ R)) :=
  cut_ite (isW_iff _) (fun k => by subst k; exact rfl) (fun k => by subst k; exact late_naQ v R) (fun hn _ => by
      rw [tail_app hn]
      exact ((cut_name L.tail).of (suf_tail L)).then (fun y D _ => cut_ok' _ (List.suffix_refl _)) fun y S _ => late_ok _ (List.suffix_refl _))
    (fun _ _ => cut_ok' _ (List.suffix_refl _))
theorem pass_suf (S : List Tk) : (passNameP E S).2 <:+ S := by unfold passNameP; split; exact suf_tail S; exact List.suffix_refl _
theorem late_na (S : List Tk) : Late E S (naP E S) := (late_naQ _ _).of (pass_suf S)
theorem cut_na (L : List Tk) : CutR E E' R L (naP E L) (naP E' (L ++ R)) := by
  by_cases hn : L = []
  · subst hn
    exact cut_end (by exact rfl) (late_na R)
  · rw [na_eq, na_eq]
    have : passNameP E' (L ++ R) = ((passNameP E L).1, (passNameP E L).2 ++ R) := by
      unfold passNameP
      rw [kind_app hn, head_app (E := E) hn, tail_app hn]
      split <;> rfl
    rw [this]
    exact (cut_naQ _ _).of (pass_suf L)
theorem late_node (S : List Tk) : Late E S (nodeP E S) := (late_must _ S).then fun _ T _ => (late_na T).then fun x U _ => (late_must _ U).then fun _ V _ => late_ok _ (List.suffix_refl _)
theorem cut_node (L : List Tk) : CutR E E' R L (nodeP E L) (nodeP E' (L ++ R)) :=
  (cut_must _ L).then (fun _ C _ => (cut_na C).then (fun x D _ => (cut_must _ D).then (fun _ F _ => cut_ok' _ (List.suffix_refl _)) fun _ V _ => late_ok _ (List.suffix_refl _))
    fun x U _ => (late_must _ U).then fun _ V _ => late_ok _ (List.suffix_refl _)) fun _ T _ => (late_na T).then fun x U _ => (late_must _ U).then fun _ V _ => late_ok _ (List.suffix_refl _)
/-- How long a way may be. -/
def starQ (E : Nat) (x : List UInt8 × List UInt8) (L : List Tk) : Res Ed :=
  if isW [83, 72, 79, 82, 84, 69, 83, 84] L then (numP E 1 8 L.tail).then fun h L => .ok ⟨x.1, x.2, false, 2, 0, h⟩ L
  else (numP E 0 8 L).then fun lo L => (mustL E [46, 46] L).then fun _ L => (numP E lo 8 L).then fun hi L => .ok ⟨x.1, x.2, false, 1, lo, hi⟩ L
def bodyQ (E : Nat) (x : List UInt8 × List UInt8) (L : List Tk) : Res Ed := if !isW [42] L then .ok ⟨x.1, x.2, false, 0, 0, 0⟩ L else starQ E x L.tail
theorem late_span (x : List UInt8 × List UInt8) (S : List Tk) : Late E S ((numP E 0 8 S).then fun lo L => (mustL E [46, 46] L).then fun _ L => (numP E lo 8 L).then fun hi L => .ok (Ed.mk x.1 x.2 false 1 lo hi) L) :=
  (late_num 0 8 S).then fun lo T _ => (late_must _ T).then fun _ U _ => (late_num lo 8 U).then fun hi V _ => late_ok _ (List.suffix_refl _)
theorem late_starQ (x : List UInt8 × List UInt8) (S : List Tk) : Late E S (starQ E x S) :=
  late_ite (fun _ => ((late_num 1 8 S.tail).of (suf_tail S)).then fun y T _ => late_ok _ (List.suffix_refl _)) (fun _ => late_span x S)
theorem cut_starQ (x : List UInt8 × List UInt8) (L : List Tk) : CutR E E' R L (starQ E x L) (starQ E' x (L ++ R)) :=
  have hs : CutR E E' R L ((numP E 0 8 L).then fun lo L => (mustL E [46, 46] L).then fun _ L => (numP E lo 8 L).then fun hi L => .ok (Ed.mk x.1 x.2 false 1 lo hi) L)
      ((numP E' 0 8 (L ++ R)).then fun lo L => (mustL E' [46, 46] L).then fun _ L => (numP E' lo 8 L).then fun hi L => .ok (Ed.mk x.1 x.2 false 1 lo hi) L) :=
    (cut_num 0 8 L).then (fun lo C _ => (cut_must _ C).then (fun _ D _ => (cut_num lo 8 D).then (fun hi F _ => cut_ok' _ (List.suffix_refl _)) fun hi V _ => late_ok _ (List.suffix_refl _)) fun _ U _ => (late_num lo 8 U).then fun hi V _ => late_ok _ (List.suffix_refl _))
      fun lo T _ => (late_must _ T).then fun _ U _ => (late_num lo 8 U).then fun hi V _ => late_ok _ (List.suffix_refl _)
  cut_ite (isW_iff _) (fun k => by rw [if_neg (by rw [k]; decide)]; exact hs.of (List.suffix_refl _) |> fun h => by rw [k] at h ⊢; exact h.end) (fun k => by rw [k]; exact late_starQ x R)
    (fun hn _ => by
      rw [tail_app hn]
      exact ((cut_num 1 8 L.tail).of (suf_tail L)).then (fun y D _ => cut_ok' _ (List.suffix_refl _)) fun y S _ => late_ok _ (List.suffix_refl _)) (fun _ _ => hs)
theorem late_bodyQ (x : List UInt8 × List UInt8) (S : List Tk) : Late E S (bodyQ E x S) := late_ite (fun _ => late_ok _ (List.suffix_refl _)) (fun _ => (late_starQ x S.tail).of (suf_tail S))
theorem cut_bodyQ (x : List UInt8 × List UInt8) (L : List Tk) : CutR E E' R L (bodyQ E x L) (bodyQ E' x (L ++ R)) :=
  cut_ite (fun hn => by rw [isW_app _ hn]) (fun k => by subst k; exact rfl) (fun k => by subst k; exact late_bodyQ x R) (fun _ _ => cut_ok' _ (List.suffix_refl _))
    (fun hn _ => by rw [tail_app hn]; exact (cut_starQ x L.tail).of (suf_tail L))
theorem late_body (S : List Tk) : Late E S (bodyP E S) := (late_na S).then fun x T _ => late_bodyQ x T
theorem cut_body (L : List Tk) : CutR E E' R L (bodyP E L) (bodyP E' (L ++ R)) := (cut_na L).then (fun x C _ => cut_bodyQ x C) fun x S _ => late_bodyQ x S
/-- An edge behind its first sign. -/
def edgeE (E : Nat) (g : Bool) (x : Ed) (L3 : List Tk) : Res Ed := if g then .ok { x with back := true } L3 else (mustL E [62] L3).then fun _ L4 => .ok { x with back := false } L4
def edgeQ (E : Nat) (g : Bool) (L : List Tk) : Res Ed :=
  (mustsL E [[45], [91]] L).then fun _ L1 => (bodyP E L1).then fun x L2 => (mustsL E [[93], [45]] L2).then fun _ L3 => edgeE E g x L3
theorem late_edgeE (g : Bool) (x : Ed) (S : List Tk) : Late E S (edgeE E g x S) := late_ite (fun _ => late_ok _ (List.suffix_refl _)) (fun _ => (late_must _ S).then fun _ T _ => late_ok _ (List.suffix_refl _))
theorem cut_edgeE (g : Bool) (x : Ed) (L : List Tk) : CutR E E' R L (edgeE E g x L) (edgeE E' g x (L ++ R)) := by
  unfold edgeE
  split
  · exact cut_ok' _ (List.suffix_refl _)
  · exact (cut_must _ L).then (fun _ C _ => cut_ok' _ (List.suffix_refl _)) fun _ S _ => late_ok _ (List.suffix_refl _)
theorem late_edgeQ (g : Bool) (S : List Tk) : Late E S (edgeQ E g S) :=
  (late_musts _ S).then fun _ T _ => (late_body T).then fun x U _ => (late_musts _ U).then fun _ V _ => late_edgeE g x V
theorem cut_edgeQ (g : Bool) (L : List Tk) : CutR E E' R L (edgeQ E g L) (edgeQ E' g (L ++ R)) :=
  (cut_musts _ L).then (fun _ C _ => (cut_body C).then (fun x D _ => (cut_musts _ D).then (fun _ F _ => cut_edgeE g x F) fun _ V _ => late_edgeE g x V)
    fun x U _ => (late_musts _ U).then fun _ V _ => late_edgeE g x V) fun _ T _ => (late_body T).then fun x U _ => (late_musts _ U).then fun _ V _ => late_edgeE g x V
theorem edge_eq (L : List Tk) : edgeP E L = edgeQ E (isW [60] L) (if isW [60] L then L.tail else L) := rfl
theorem lt_suf (L : List Tk) (s : List UInt8) : (if isW s L then L.tail else L) <:+ L := by split; exact suf_tail L; exact List.suffix_refl _
theorem late_edge (S : List Tk) : Late E S (edgeP E S) := (late_edgeQ _ _).of (lt_suf S _)
theorem cut_edge (L : List Tk) : CutR E E' R L (edgeP E L) (edgeP E' (L ++ R)) := by
  by_cases hn : L = []
  · subst hn
    exact cut_end (by exact ⟨rfl, rfl⟩) (late_edge R)
  · rw [edge_eq, edge_eq, isW_app _ hn, tail_app hn]
    have : (if isW [60] L = true then L.tail ++ R else L ++ R) = (if isW [60] L then L.tail else L) ++ R := by split <;> rfl
    rw [this]
    exact (cut_edgeQ _ _).of (lt_suf L _)
theorem must_okC {s : List UInt8} {L C : List Tk} (h : mustL E s L = .ok () C) : L ≠ [] ∧ C = L.tail := by
  unfold mustL at h
  split at h
  · cases h
    exact ⟨ne_of_isW ‹_›, rfl⟩
  · cases h
theorem edgeQ_less {g : Bool} {L C : List Tk} {x : Ed} (h : edgeQ E g L = .ok x C) : L ≠ [] ∧ C <:+ L.tail := by
  obtain ⟨y, M, h1, h2⟩ := then_ok.1 h
  obtain ⟨z, M', h3, h4⟩ := then_ok.1 h1
  obtain ⟨hn, rfl⟩ := must_okC h3
  have k1 := late_musts (E := E) [[91]] L.tail
  rw [h4] at k1
  have k2 : Late E M _ := (late_body (E := E) M).then fun x U _ => (late_musts [[93], [45]] U).then fun _ V _ => late_edgeE g x V
  rw [h2] at k2
  exact ⟨hn, List.IsSuffix.trans k2 k1⟩
theorem edge_lessC {L C : List Tk} {x : Ed} (h : edgeP E L = .ok x C) : C.length < L.length := by
  rw [edge_eq] at h
  obtain ⟨hn, hs⟩ := edgeQ_less h
  have h1 := hs.length_le
  have h2 := tail_lt hn
  have h3 := (lt_suf L [60]).length_le
  omega
theorem late_pattG : ∀ (k : Nat) (p : Pt) (S : List Tk), Late E S (pattG E k p S)
  | 0, p, S => late_ok _ (List.suffix_refl _)
  | k + 1, p, S => late_ite (fun _ => (late_edge S).then fun x T _ => (late_node T).then fun y U _ => late_pattG k _ U) (fun _ => late_ok _ (List.suffix_refl _))
theorem cut_pattG : ∀ (k k' : Nat) (p : Pt) (L : List Tk), L.length ≤ k → (L ++ R).length ≤ k' → CutR E E' R L (pattG E k p L) (pattG E' k' p (L ++ R))
  | 0, k', p, L, g1, g2 => by
    have : L = [] := List.length_eq_zero_iff.1 (by omega)
    subst this
    exact cut_end (by exact rfl) (late_pattG k' p R)
  | k + 1, 0, p, L, g1, g2 => by
    have : L ++ R = [] := List.length_eq_zero_iff.1 (by omega)
    obtain ⟨rfl, rfl⟩ := List.append_eq_nil_iff.1 this
    exact cut_end (by exact rfl) (late_pattG 0 p [])
  | k + 1, k' + 1, p, L, g1, g2 =>
    cut_ite (fun hn => by rw [isW_app _ hn, isW_app _ hn]) (fun e => by subst e; exact rfl) (fun e => by subst e; exact late_pattG (k' + 1) p R)
      (fun hn hc => (cut_edge L).then' (fun x C hx _ => (cut_node C).then (fun y D hD => by
          have h1 := edge_lessC hx
          have h2 := hD.length_le
          exact cut_pattG k k' _ D (by omega) (by rw [List.length_append] at g2 ⊢; omega)) fun y S _ => late_pattG k' _ S)
        fun x S _ => (late_node S).then fun y T _ => late_pattG k' _ T)
      (fun _ _ => cut_ok' _ (List.suffix_refl _))
theorem late_patt (S : List Tk) : Late E S (pattP E S) := (late_node S).then fun x T _ => late_pattG _ _ T
theorem cut_patt (L : List Tk) : CutR E E' R L (pattP E L) (pattP E' (L ++ R)) := (cut_node L).then (fun x C _ => cut_pattG _ _ _ C (Nat.le_refl _) (Nat.le_refl _)) fun x S _ => late_pattG _ _ S
theorem late_listG {α : Type} {b : Nat} {p : List Tk → Res α} (h : ∀ S, S.length < b → Late E S (p S)) : ∀ (k : Nat) (l : List α) (S : List Tk), S.length < b → Late E S (listG p k l S)
  | 0, l, S, _ => late_ok _ (List.suffix_refl _)
  | k + 1, l, S, hs => late_ite (fun _ => ((h S.tail (suf_lt (suf_tail S) hs)).of (suf_tail S)).then fun x T hT => late_listG h k _ T (suf_lt hT hs)) (fun _ => late_ok _ (List.suffix_refl _))
theorem cut_listG {α : Type} {n b : Nat} {p p' : List Tk → Res α} (hp : ∀ L, L.length < n → (L ++ R).length < b → CutR E E' R L (p L) (p' (L ++ R))) (h : ∀ S, S.length < b → Late E' S (p' S)) : ∀ (k k' : Nat) (l : List α) (L : List Tk), L.length ≤ k → (L ++ R).length ≤ k' → L.length < n → (L ++ R).length < b →
    CutR E E' R L (listG p k l L) (listG p' k' l (L ++ R))
  | 0, k', l, L, g1, g2, h1, h2 => by
    have : L = [] := List.length_eq_zero_iff.1 (by omega)
    subst this
    exact cut_end (by exact rfl) (late_listG h k' l R h2)
  | k + 1, 0, l, L, g1, g2, h1, h2 => by
    have : L ++ R = [] := List.length_eq_zero_iff.1 (by omega)
    obtain ⟨rfl, rfl⟩ := List.append_eq_nil_iff.1 this
    exact cut_end (by exact rfl) (late_listG h 0 l [] h2)
  | k + 1, k' + 1, l, L, g1, g2, h1, h2 =>
    cut_ite (isW_iff _) (fun e => by subst e; exact rfl) (fun e => by subst e; exact late_listG h (k' + 1) l R h2)
      (fun hn hc => by
        have ht := tail_lt hn
        rw [tail_app hn]
        refine CutR.of (CutR.then (hp L.tail (by omega) (app_lt (suf_tail L) h2)) (fun x C hC => ?_) fun x S hS => late_listG h k' _ S (suf_lt' hS h2)) (suf_tail L)
        have hk := hC.length_le
        exact cut_listG hp h k k' _ C (by omega) (by rw [List.length_append] at g2 ⊢; omega) (by omega) (by rw [List.length_append] at h2 ⊢; omega))
      (fun _ _ => cut_ok' _ (List.suffix_refl _))
theorem late_list {α : Type} {b : Nat} {p : List Tk → Res α} (h : ∀ S, S.length < b → Late E S (p S)) (S : List Tk) (hs : S.length < b) : Late E S (listP p S) := (h S hs).then fun x T hT => late_listG h _ _ T (suf_lt hT hs)
theorem cut_list {α : Type} {n b : Nat} {p p' : List Tk → Res α} (hp : ∀ L, L.length < n → (L ++ R).length < b → CutR E E' R L (p L) (p' (L ++ R))) (h : ∀ S, S.length < b → Late E' S (p' S)) (L : List Tk) (h1 : L.length < n) (h2 : (L ++ R).length < b) :
    CutR E E' R L (listP p L) (listP p' (L ++ R)) := (hp L h1 h2).then (fun x C hC => cut_listG hp h _ _ _ C (Nat.le_refl _) (Nat.le_refl _) (suf_lt hC h1) (app_lt hC h2)) fun x S hS => late_listG h _ _ S (suf_lt' hS h2)
def itemQ (E : Nat) (x : Ex) (L : List Tk) : Res Itm := if isW [65, 83] L then (nameP E L.tail).then fun n L => .ok ⟨x, n⟩ L else .ok ⟨x, []⟩ L
theorem late_itemQ (x : Ex) (S : List Tk) : Late E S (itemQ E x S) := late_ite (fun _ => ((late_name S.tail).of (suf_tail S)).then fun y T _ => late_ok _ (List.suffix_refl _)) (fun _ => late_ok _ (List.suffix_refl _))
theorem cut_itemQ (x : Ex) (L : List Tk) : CutR E E' R L (itemQ E x L) (itemQ E' x (L ++ R)) :=
  cut_ite (isW_iff _) (fun k => by subst k; exact rfl) (fun k => by subst k; exact late_itemQ x R) (fun hn _ => by
      rw [tail_app hn]
      exact ((cut_name L.tail).of (suf_tail L)).then (fun y D _ => cut_ok' _ (List.suffix_refl _)) fun y S _ => late_ok _ (List.suffix_refl _))
    (fun _ _ => cut_ok' _ (List.suffix_refl _))
theorem late_item (S : List Tk) (hs : S.length < n) : Late E S (itemP E n S) := (late_exprA S hs).then fun x T _ => late_itemQ x T
theorem cut_item (L : List Tk) (h1 : L.length < n) (h2 : (L ++ R).length < b) : CutR E E' R L (itemP E n L) (itemP E' b (L ++ R)) := (cut_exprA L h1 h2).then (fun x C _ => cut_itemQ x C) fun x S _ => late_itemQ x S
def keyQ (n : List UInt8) (L : List Tk) : Res Ky := if isW [65, 83, 67] L then .ok ⟨n, false⟩ L.tail else if isW [68, 69, 83, 67] L then .ok ⟨n, true⟩ L.tail else .ok ⟨n, false⟩ L
theorem late_keyQ (n : List UInt8) (S : List Tk) : Late E S (keyQ n S) := late_ite (fun _ => late_ok _ (suf_tail S)) (fun _ => late_ite (fun _ => late_ok _ (suf_tail S)) (fun _ => late_ok _ (List.suffix_refl _)))
theorem cut_keyQ (n : List UInt8) (L : List Tk) : CutR E E' R L (keyQ n L) (keyQ n (L ++ R)) := by
  by_cases hn : L = []
  · subst hn
    exact cut_end (by exact rfl) (late_keyQ n R)
  · unfold keyQ
    rw [tail_app hn]
    refine cut_ite (isW_iff _) (fun k => absurd k hn) (fun k => absurd k hn) (fun _ _ => cut_ok' _ (suf_tail L)) fun _ _ => ?_
    exact cut_ite (isW_iff _) (fun k => absurd k hn) (fun k => absurd k hn) (fun _ _ => cut_ok' _ (suf_tail L)) fun _ _ => cut_ok' _ (List.suffix_refl _)
theorem late_key (S : List Tk) : Late E S (keyP E S) := (late_name S).then fun x T _ => late_keyQ x T
theorem cut_key (L : List Tk) : CutR E E' R L (keyP E L) (keyP E' (L ++ R)) := (cut_name L).then (fun x C _ => cut_keyQ x C) fun x S _ => late_keyQ x S
theorem late_where (S : List Tk) (hs : S.length < n) : Late E S (whereP E n S) := late_ite (fun _ => ((late_exprA S.tail (suf_lt (suf_tail S) hs)).of (suf_tail S)).then fun y T _ => late_ok _ (List.suffix_refl _)) (fun _ => late_ok _ (List.suffix_refl _))
theorem cut_where (L : List Tk) (h1 : L.length < n) (h2 : (L ++ R).length < b) : CutR E E' R L (whereP E n L) (whereP E' b (L ++ R)) :=
  cut_ite (isW_iff _) (fun k => by subst k; exact rfl) (fun k => by subst k; exact late_where R h2) (fun hn _ => by
      rw [tail_app hn]
      exact ((cut_exprA L.tail (suf_lt (suf_tail L) h1) (app_lt (suf_tail L) h2)).of (suf_tail L)).then (fun y D _ => cut_ok' _ (List.suffix_refl _)) fun y S _ => late_ok _ (List.suffix_refl _))
    (fun _ _ => cut_ok' _ (List.suffix_refl _))
theorem late_keys (S : List Tk) : Late E S (keysP E S) := late_ite (fun _ => ((late_must _ S.tail).of (suf_tail S)).then fun y T _ => late_list (b := T.length + 1) (fun U _ => late_key U) T (Nat.lt_succ_self _)) (fun _ => late_ok _ (List.suffix_refl _))
theorem cut_keys (L : List Tk) : CutR E E' R L (keysP E L) (keysP E' (L ++ R)) :=
  cut_ite (isW_iff _) (fun k => by subst k; exact rfl) (fun k => by subst k; exact late_keys R) (fun hn _ => by
      rw [tail_app hn]
      exact ((cut_must _ L.tail).of (suf_tail L)).then (fun y D _ => cut_list (n := D.length + 1) (b := (D ++ R).length + 1) (fun M _ _ => cut_key M) (fun U _ => late_key U) D (Nat.lt_succ_self _) (Nat.lt_succ_self _)) fun y S _ => late_list (b := S.length + 1) (fun U _ => late_key U) S (Nat.lt_succ_self _))
    (fun _ _ => cut_ok' _ (List.suffix_refl _))
theorem late_lim (S : List Tk) : Late E S (limP E S) := late_ite (fun _ => (late_num _ _ S.tail).of (suf_tail S)) (fun _ => late_ok _ (List.suffix_refl _))
theorem cut_lim (L : List Tk) : CutR E E' R L (limP E L) (limP E' (L ++ R)) :=
  cut_ite (isW_iff _) (fun k => by subst k; exact rfl) (fun k => by subst k; exact late_lim R) (fun hn _ => by
      rw [tail_app hn]
      exact (cut_num _ _ L.tail).of (suf_tail L))
    (fun _ _ => cut_ok' _ (List.suffix_refl _))
/-- A query behind RETURN. -/
def retQ (E N : Nat) (ps : List Pt) (wh : List Ex) (g : Bool) (L : List Tk) : Res Qy :=
  (listP (itemP E N) L).then fun is L' => (keysP E L').then fun ks L' => (limP E L').then fun n L' => .ok ⟨ps, wh, g, is, ks, n⟩ L'
theorem late_retQ (ps : List Pt) (wh : List Ex) (g : Bool) (S : List Tk) (hs : S.length < n) : Late E S (retQ E n ps wh g S) :=
  (late_list (fun U hU => late_item U hU) S hs).then fun is T _ => (late_keys T).then fun ks U _ => (late_lim U).then fun n V _ => late_ok _ (List.suffix_refl _)
theorem cut_retQ (ps : List Pt) (wh : List Ex) (g : Bool) (L : List Tk) (h1 : L.length < n) (h2 : (L ++ R).length < b) : CutR E E' R L (retQ E n ps wh g L) (retQ E' b ps wh g (L ++ R)) :=
  (cut_list (fun M m1 m2 => cut_item M m1 m2) (fun U hU => late_item U hU) L h1 h2).then (fun is C _ => (cut_keys C).then (fun ks D _ => (cut_lim D).then (fun n F _ => cut_ok' _ (List.suffix_refl _)) fun n V _ => late_ok _ (List.suffix_refl _))
    fun ks U _ => (late_lim U).then fun n V _ => late_ok _ (List.suffix_refl _)) fun is T _ => (late_keys T).then fun ks U _ => (late_lim U).then fun n V _ => late_ok _ (List.suffix_refl _)
def distQ (E N : Nat) (ps : List Pt) (wh : List Ex) (L : List Tk) : Res Qy := retQ E N ps wh (isW [68, 73, 83, 84, 73, 78, 67, 84] L) (if isW [68, 73, 83, 84, 73, 78, 67, 84] L then L.tail else L)
theorem late_distQ (ps : List Pt) (wh : List Ex) (S : List Tk) (hs : S.length < n) : Late E S (distQ E n ps wh S) := (late_retQ ps wh _ _ (suf_lt (lt_suf S _) hs)).of (lt_suf S _)
theorem cut_distQ (ps : List Pt) (wh : List Ex) (L : List Tk) (h1 : L.length < n) (h2 : (L ++ R).length < b) : CutR E E' R L (distQ E n ps wh L) (distQ E' b ps wh (L ++ R)) := by
  by_cases hn : L = []
  · subst hn
    exact cut_end (cut_retQ (E' := E') (R := R) ps wh false [] h1 h2).end (late_distQ ps wh R h2)
  · unfold distQ
    rw [isW_app _ hn, tail_app hn]
    have : (if isW [68, 73, 83, 84, 73, 78, 67, 84] L = true then L.tail ++ R else L ++ R) = (if isW [68, 73, 83, 84, 73, 78, 67, 84] L then L.tail else L) ++ R := by split <;> rfl
    rw [this]
    exact (cut_retQ ps wh _ _ (suf_lt (lt_suf L _) h1) (app_lt (lt_suf L _) h2)).of (lt_suf L _)
theorem query_eq (N : Nat) (L : List Tk) : queryP E N L = (mustL E [77, 65, 84, 67, 72] L).then fun _ L => (listP (pattP E) L).then fun ps L => (whereP E N L).then fun wh L => (mustL E [82, 69, 84, 85, 82, 78] L).then fun _ L => distQ E N ps wh L := rfl
theorem late_query (S : List Tk) (hs : S.length < n) : Late E S (queryP E n S) := by
  rw [query_eq]
  exact (late_must _ S).then fun _ T hT => (late_list (b := T.length + 1) (fun U _ => late_patt U) T (Nat.lt_succ_self _)).then fun ps U hU => (late_where U (suf_lt (hU.trans hT) hs)).then fun wh V hV => (late_must _ V).then fun _ X hX => late_distQ ps wh X (suf_lt (((hX.trans hV).trans hU).trans hT) hs)
theorem cut_query (L : List Tk) (h1 : L.length < n) (h2 : (L ++ R).length < b) : CutR E E' R L (queryP E n L) (queryP E' b (L ++ R)) := by
  rw [query_eq, query_eq]
  exact (cut_must _ L).then (fun _ C hC => (cut_list (n := C.length + 1) (b := (C ++ R).length + 1) (fun M _ _ => cut_patt M) (fun U _ => late_patt U) C (Nat.lt_succ_self _) (Nat.lt_succ_self _)).then (fun ps D hD =>
      (cut_where D (suf_lt (hD.trans hC) h1) (app_lt (hD.trans hC) h2)).then (fun wh F hF => (cut_must _ F).then (fun _ G hG => cut_distQ ps wh G (suf_lt (((hG.trans hF).trans hD).trans hC) h1) (app_lt (((hG.trans hF).trans hD).trans hC) h2))
          fun _ X hX => late_distQ ps wh X (suf_lt' hX h2))
        fun wh V hV => (late_must _ V).then fun _ X hX => late_distQ ps wh X (suf_lt' (hX.trans hV) h2))
      fun ps U hU => (late_where U (suf_lt' hU h2)).then fun wh V hV => (late_must _ V).then fun _ X hX => late_distQ ps wh X (suf_lt' ((hX.trans hV).trans hU) h2))
    fun _ T hT => (late_list (b := T.length + 1) (fun U _ => late_patt U) T (Nat.lt_succ_self _)).then fun ps U hU => (late_where U (suf_lt' (hU.trans hT) h2)).then fun wh V hV => (late_must _ V).then fun _ X hX => late_distQ ps wh X (suf_lt' (((hX.trans hV).trans hU).trans hT) h2)
end
end Go.Proofs.YtefenbonjepjgaaGreatDoor
namespace Go.Proofs.YtefenbonjepjgaaGreatDoor
open Go.Lib
set_option linter.unusedSimpArgs false
set_option linter.unusedVariables false

theorem decode_more (l : List UInt8) (b : UInt8) (t : List UInt8) (hne : l ≠ []) (hb : b.toNat < 128) : decodeL (l ++ b :: t) = decodeL l := by
  by_cases h : (decodeL (l ++ b :: t)).2 ≤ l.length
  · have := decodeL_take (l ++ b :: t) l.length h
    rw [List.take_left] at this
    exact this.symm
  · exfalso
    have hp : 0 < l.length := List.length_pos_iff.2 hne
    have he := encode_decode (l ++ b :: t) (by simp) (by omega)
    have hm : b ∈ (l ++ b :: t).take (decodeL (l ++ b :: t)).2 := by
      have h1 : (l ++ b :: t)[l.length]? = some b := by simp
      have h2 : ((l ++ b :: t).take (decodeL (l ++ b :: t)).2)[l.length]? = some b := by rw [List.getElem?_take_of_lt (by omega)]; exact h1
      exact List.mem_of_getElem? h2
    have hi : 128 ≤ (decodeL (l ++ b :: t)).1 := by
      obtain ⟨c, r, rfl⟩ := List.exists_cons_of_ne_nil hne
      by_cases hc : c.toNat < 128
      · rw [List.cons_append, decodeL_low c _ hc] at h
        exact absurd (by simp) h
      · exact decodeL_high c _ (by omega)
    have := encode_highs ((decodeL (l ++ b :: t)).1 : Int) (by omega) b (by rw [he]; exact hm)
    omega
theorem span_more (p : Int → Bool) (b : UInt8) (t : List UInt8) (hb : b.toNat < 128) (hp : p (b.toNat : Int) = false) : ∀ (n : Nat) (l : List UInt8), l.length ≤ n → spanL p (l ++ b :: t) = spanL p l
  | 0, l, h => by
    have : l = [] := List.length_eq_zero_iff.1 (by omega)
    subst this
    rw [List.nil_append, spanL_step _ _ (by simp), decodeL_low b _ hb]
    dsimp only
    rw [hp, if_neg (by decide), spanL_nil]
  | n + 1, l, h => by
    by_cases hne : l = []
    · subst hne
      exact span_more p b t hb hp 0 [] (Nat.le_refl _)
    · have h1 := decodeL_pos l
      have h2 := decodeL_le l hne
      rw [spanL_step _ _ (by simp), spanL_step p l hne, decode_more l b t hne hb, List.drop_append_of_le_length h2, span_more p b t hb hp n _ (by rw [List.length_drop]; omega)]
theorem scanM (t : List UInt8) : ∀ (n : Nat) (l : List UInt8), l.length ≤ n → ∀ x, scanB l = some x → scanB (l ++ t) = some x
  | _, [], _, x, h => by cases h
  | 0, _ :: _, hl, _, _ => by simp at hl
  | n + 1, b :: r, hl, x, h => by
    by_cases h1 : b = 39
    · rw [List.cons_append]
      rw [scanB.eq_def] at h ⊢
      dsimp only at h ⊢
      rw [if_pos h1] at h ⊢
      exact h
    · by_cases h2 : b = 92
      · subst h2
        match r, h with
        | [], h => cases h
        | c :: r, h =>
          rw [List.cons_append, List.cons_append]
          rw [scan_esc] at h ⊢
          simp only [List.length_cons] at hl
          split at h
          · rename_i hc
            rw [if_pos hc]
            obtain ⟨y, hy, rfl⟩ := Option.map_eq_some_iff.1 h
            rw [scanM t n r (by omega) y hy]
            rfl
          · rename_i hc
            rw [if_neg hc]
            split at h
            · rename_i hd
              rw [if_pos hd]
              obtain ⟨y, hy, rfl⟩ := Option.map_eq_some_iff.1 h
              rw [scanM t n r (by omega) y hy]
              rfl
            · cases h
      · rw [List.cons_append]
        rw [scan_cons b _ h1 h2] at h ⊢
        obtain ⟨y, hy, rfl⟩ := Option.map_eq_some_iff.1 h
        simp only [List.length_cons] at hl
        rw [scanM t n r (by omega) y hy]
        rfl
theorem textM (t l : List UInt8) (x : List UInt8 × Nat) (h : textL l = some x) : textL (l ++ t) = some x := by
  unfold textL at h ⊢
  cases hs : scanB l with
  | none => rw [hs] at h; cases h
  | some y =>
    rw [hs] at h
    rw [scanM t _ l (Nat.le_refl _) y hs]
    dsimp only at h ⊢
    have := scan_le _ l (Nat.le_refl _) y hs
    rw [List.take_append_of_le_length (by omega)]
    exact h
theorem findS {α : Type} (p q : α → Bool) : ∀ L : List α, (∀ g ∈ L, p g = q g) → L.find? p = L.find? q
  | [], _ => rfl
  | g :: L, h => by
    rw [List.find?_cons, List.find?_cons, h g (List.mem_cons_self ..), findS p q L fun k hk => h k (List.mem_cons_of_mem _ hk)]
theorem sign_more (l t : List UInt8) : signL (l ++ 32 :: t) = signL l := by
  unfold signL
  congr 1
  have hall : ∀ g ∈ signsL, (32 : UInt8) ∉ g := by decide
  refine findS _ _ _ fun g hg => ?_
  have hng := hall g hg
  rw [Bool.eq_iff_iff, List.isPrefixOf_iff_prefix, List.isPrefixOf_iff_prefix]
  constructor
  · intro h
    by_cases hl : g.length ≤ l.length
    · exact List.prefix_of_prefix_length_le h (List.prefix_append _ _) hl
    · exfalso
      apply hng
      have h1 : (l ++ 32 :: t)[l.length]? = some 32 := by simp
      exact List.mem_of_getElem? (i := l.length) (by
        obtain ⟨u, hu⟩ := h
        rw [← hu, List.getElem?_append_left (by omega)] at h1
        exact h1)
  · intro h
    exact h.trans (List.prefix_append _ _)
theorem word_more (l t : List UInt8) (hne : l ≠ []) (he : (wordL l).e = 0) : wordL (l ++ 32 :: t) = wordL l := by
  unfold wordL at he ⊢
  rw [decode_more l 32 t hne (by decide)]
  split
  · rename_i h39
    rw [if_pos h39] at he
    unfold textW at he ⊢
    rw [List.tail_append_of_ne_nil hne]
    cases ht : textL l.tail with
    | none => rw [ht] at he; exact absurd he (by simp [bad])
    | some x => rw [textM (32 :: t) _ x ht]
  · split
    · have hs := span_more digB 32 t (by decide) (by decide) _ l (Nat.le_refl _)
      have hl := spanL_le digB _ l (Nat.le_refl _)
      unfold numW
      rw [hs, List.take_append_of_le_length hl]
    · split
      · have hs := span_more (runeB false) 32 t (by decide) (by decide) _ l (Nat.le_refl _)
        have hl := spanL_le (runeB false) _ l (Nat.le_refl _)
        unfold nameW
        rw [hs, List.take_append_of_le_length hl]
      · unfold signW
        rw [sign_more l t]

/-- Enough is enough. -/
theorem lexG_fuel : ∀ (n m at' : Nat) (l : List UInt8) (acc : List Tk), l.length ≤ n → l.length ≤ m → lexG n at' l acc = lexG m at' l acc
  | 0, m, at', l, acc, h, _ => by
    have : l = [] := List.length_eq_zero_iff.1 (by omega)
    subst this
    rw [lex_end, lex_end]
  | n + 1, m, at', l, acc, h, k => by
    by_cases hne : l = []
    · subst hne
      rw [lex_end, lex_end]
    · have hp : 0 < l.length := List.length_pos_iff.2 hne
      obtain ⟨m, rfl⟩ : ∃ k, m = k + 1 := ⟨m - 1, by omega⟩
      cases hbk : blankB (decodeL l).1 with
      | true =>
        rw [lex_blank _ _ _ _ hne hbk, lex_blank _ _ _ _ hne hbk]
        exact lexG_fuel n m _ _ _ (by rw [List.length_drop]; omega) (by rw [List.length_drop]; omega)
      | false =>
        by_cases he : (wordL l).e = 0
        · have hl := word_len l hne he
          rw [lex_word _ _ _ _ hne hbk he, lex_word _ _ _ _ hne hbk he]
          exact lexG_fuel n m _ _ _ (by rw [List.length_drop]; omega) (by rw [List.length_drop]; omega)
        · rw [lex_bad _ _ _ _ hne hbk he, lex_bad _ _ _ _ hne hbk he]
/-- The words of a text, from a place on: what is behind them does not hang on those ahead. -/
inductive Lxs : Nat → List UInt8 → List Tk → Prop where
  | nil (at' : Nat) : Lxs at' [] []
  | blank (at' : Nat) (l : List UInt8) (L : List Tk) (hne : l ≠ []) (h : blankB (decodeL l).1 = true) (r : Lxs (at' + 1) (l.drop 1) L) : Lxs at' l L
  | word (at' : Nat) (l : List UInt8) (L : List Tk) (hne : l ≠ []) (h : blankB (decodeL l).1 = false) (he : (wordL l).e = 0) (r : Lxs (at' + (wordL l).len) (l.drop (wordL l).len) L) : Lxs at' l (tkL (wordL l) at' :: L)
theorem lxs_lex {at' : Nat} {l : List UInt8} {L : List Tk} (h : Lxs at' l L) : ∀ (n : Nat) (acc : List Tk), l.length ≤ n → lexG n at' l acc = (acc ++ L, 0, 0) := by
  induction h with
  | nil at' => intro n acc _; rw [lex_end, List.append_nil]
  | blank at' l L hne h r ih =>
    intro n acc hn
    have hp : 0 < l.length := List.length_pos_iff.2 hne
    obtain ⟨n, rfl⟩ : ∃ k, n = k + 1 := ⟨n - 1, by omega⟩
    rw [lex_blank _ _ _ _ hne h]
    exact ih n acc (by rw [List.length_drop]; omega)
  | word at' l L hne h he r ih =>
    intro n acc hn
    have hl := word_len l hne he
    obtain ⟨n, rfl⟩ : ∃ k, n = k + 1 := ⟨n - 1, by omega⟩
    rw [lex_word _ _ _ _ hne h he, ih n _ (by rw [List.length_drop]; omega), List.append_assoc]
    rfl
theorem lex_lxs : ∀ (n at' : Nat) (l : List UInt8) (acc : List Tk), l.length ≤ n → (lexG n at' l acc).2.2 = 0 → ∃ L, (lexG n at' l acc).1 = acc ++ L ∧ Lxs at' l L
  | 0, at', l, acc, h, _ => by
    have : l = [] := List.length_eq_zero_iff.1 (by omega)
    subst this
    exact ⟨[], by rw [lex_end, List.append_nil], .nil _⟩
  | n + 1, at', l, acc, h, k => by
    by_cases hne : l = []
    · subst hne
      exact ⟨[], by rw [lex_end, List.append_nil], .nil _⟩
    · have hp : 0 < l.length := List.length_pos_iff.2 hne
      cases hbk : blankB (decodeL l).1 with
      | true =>
        rw [lex_blank _ _ _ _ hne hbk] at k ⊢
        obtain ⟨L, h1, h2⟩ := lex_lxs n _ _ acc (by rw [List.length_drop]; omega) k
        exact ⟨L, h1, .blank _ _ _ hne hbk h2⟩
      | false =>
        by_cases he : (wordL l).e = 0
        · have hl := word_len l hne he
          rw [lex_word _ _ _ _ hne hbk he] at k ⊢
          obtain ⟨L, h1, h2⟩ := lex_lxs n _ _ _ (by rw [List.length_drop]; omega) k
          exact ⟨_ :: L, by rw [h1, List.append_assoc]; rfl, .word _ _ _ hne hbk he h2⟩
        · rw [lex_bad _ _ _ _ hne hbk he] at k
          exact absurd k he
theorem lexL_lxs {l : List UInt8} (h : (lexL l).2.2 = 0) : l.length ≤ 4096 ∧ Lxs 0 l (lexL l).1 := by
  unfold lexL at h ⊢
  by_cases hl : 4096 < l.length
  · rw [if_pos hl] at h
    exact absurd h (by decide)
  · rw [if_neg hl] at h ⊢
    obtain ⟨L, h1, h2⟩ := lex_lxs _ _ _ _ (Nat.le_refl _) h
    rw [h1, List.nil_append]
    exact ⟨by omega, h2⟩
theorem lxs_lexL {l : List UInt8} {L : List Tk} (h : Lxs 0 l L) (hl : l.length ≤ 4096) : lexL l = (L, 0, 0) := by
  unfold lexL
  rw [if_neg (by omega), lxs_lex h _ _ (Nat.le_refl _), List.nil_append]
/-- So far on. -/
def mvT (k : Nat) (x : Tk) : Tk := ⟨x.k, x.t, x.n, x.at' + k⟩
theorem Lxs.moved {at' : Nat} {l : List UInt8} {L : List Tk} (h : Lxs at' l L) (k : Nat) : Lxs (at' + k) l (L.map (mvT k)) := by
  induction h with
  | nil at' => exact .nil _
  | blank at' l L hne h r ih => exact .blank _ _ _ hne h (by rw [show at' + k + 1 = at' + 1 + k by omega]; exact ih)
  | word at' l L hne h he r ih => exact .word _ _ _ hne h he (by rw [show at' + k + (wordL l).len = at' + (wordL l).len + k by omega]; exact ih)
/-- A blank and another text behind. -/
theorem Lxs.join {at' : Nat} {l : List UInt8} {L : List Tk} (h : Lxs at' l L) {t : List UInt8} {M : List Tk} (ht : Lxs (at' + l.length + 1) t M) : Lxs at' (l ++ 32 :: t) (L ++ M) := by
  induction h with
  | nil at' =>
    refine .blank _ _ _ (by simp) ?_ ht
    show blankB (decodeL (32 :: t)).1 = true
    rw [decodeL_low 32 t (by decide)]
    decide
  | blank at' l L hne h r ih =>
    have hp : 0 < l.length := List.length_pos_iff.2 hne
    refine .blank _ _ _ (by simp) (by rw [decode_more l 32 t hne (by decide)]; exact h) ?_
    rw [List.drop_append_of_le_length (by omega)]
    exact ih (by rw [List.length_drop, show at' + 1 + (l.length - 1) + 1 = at' + l.length + 1 by omega]; exact ht)
  | word at' l L hne h he r ih =>
    have hl := word_len l hne he
    have hw := word_more l t hne he
    rw [List.cons_append, ← hw]
    refine .word _ _ _ (by simp) (by rw [decode_more l 32 t hne (by decide)]; exact h) (by rw [hw]; exact he) ?_
    rw [hw, List.drop_append_of_le_length hl.2]
    exact ih (by rw [List.length_drop, show at' + (wordL l).len + (l.length - (wordL l).len) + 1 = at' + l.length + 1 by omega]; exact ht)

theorem span_take (p : Int → Bool) : ∀ (n : Nat) (l : List UInt8) (k : Nat), l.length ≤ n → spanL p l ≤ k → (k = spanL p l ∨ (decodeL (l.drop (spanL p l))).2 ≤ k - spanL p l) → spanL p (l.take k) = spanL p l
  | 0, l, k, h, _, _ => by
    have : l = [] := List.length_eq_zero_iff.1 (by omega)
    subst this
    rw [List.take_nil]
  | n + 1, l, k, h, h1, h2 => by
    by_cases hne : l = []
    · subst hne
      rw [List.take_nil]
    · have hd1 := decodeL_pos l
      have hd2 := decodeL_le l hne
      by_cases hk : k = 0
      · subst hk
        rw [List.take_zero, spanL_nil]
        omega
      · have hne' : l.take k ≠ [] := by
          intro e
          have := congrArg List.length e
          rw [List.length_take, List.length_nil] at this
          omega
        by_cases hp : p (decodeL l).1 = true
        · have hs := spanL_step p l hne
          rw [if_pos hp] at hs
          have hdk : (decodeL l).2 ≤ k := by omega
          rw [spanL_step p (l.take k) hne', decodeL_take l k hdk, if_pos hp, List.drop_take, hs]
          rw [span_take p n (l.drop (decodeL l).2) (k - (decodeL l).2) (by rw [List.length_drop]; omega) (by omega) (by
            rw [hs, ← List.drop_drop] at h2
            rcases h2 with h2 | h2
            · left; omega
            · right
              omega)]
        · have hs := spanL_step p l hne
          rw [if_neg hp] at hs
          have hdk : (decodeL l).2 ≤ k := by
            rw [hs, List.drop_zero] at h2
            rcases h2 with h2 | h2
            · exact absurd h2 hk
            · omega
          rw [spanL_step p (l.take k) hne', decodeL_take l k hdk, if_neg hp, hs]
theorem scan_take : ∀ (n : Nat) (l : List UInt8), l.length ≤ n → ∀ x k, scanB l = some x → x.2 + 1 ≤ k → scanB (l.take k) = some x
  | _, [], _, x, k, h, _ => by cases h
  | 0, _ :: _, hl, _, _, _, _ => by simp at hl
  | n + 1, b :: r, hl, x, 0, h, hk => by omega
  | n + 1, b :: r, hl, x, k + 1, h, hk => by
    rw [List.take_succ_cons]
    by_cases h1 : b = 39
    · rw [scanB.eq_def] at h ⊢
      dsimp only at h ⊢
      rw [if_pos h1] at h ⊢
      exact h
    · by_cases h2 : b = 92
      · subst h2
        match r, h with
        | [], h => cases h
        | c :: r, h =>
          rw [scan_esc] at h
          simp only [List.length_cons] at hl
          split at h
          · rename_i hc
            obtain ⟨y, hy, rfl⟩ := Option.map_eq_some_iff.1 h
            dsimp only at hk
            obtain ⟨k, rfl⟩ : ∃ j, k = j + 1 := ⟨k - 1, by omega⟩
            rw [List.take_succ_cons, scan_esc, if_pos hc, scan_take n r (by omega) y k hy (by omega)]
            rfl
          · rename_i hc
            split at h
            · rename_i hd
              obtain ⟨y, hy, rfl⟩ := Option.map_eq_some_iff.1 h
              dsimp only at hk
              obtain ⟨k, rfl⟩ : ∃ j, k = j + 1 := ⟨k - 1, by omega⟩
              rw [List.take_succ_cons, scan_esc, if_neg hc, if_pos hd, scan_take n r (by omega) y k hy (by omega)]
              rfl
            · cases h
      · rw [scan_cons b _ h1 h2] at h ⊢
        obtain ⟨y, hy, rfl⟩ := Option.map_eq_some_iff.1 h
        simp only [List.length_cons] at hl
        dsimp only at hk
        rw [scan_take n r (by omega) y k hy (by omega)]
        rfl
theorem tail_take' : ∀ (l : List UInt8) (k : Nat), (l.take k).tail = l.tail.take (k - 1)
  | [], k => by simp
  | b :: l, 0 => by simp
  | b :: l, k + 1 => by simp
theorem find_take (l : List UInt8) (k : Nat) : ∀ (G : List (List UInt8)) (g : List UInt8), G.find? (fun g => g.isPrefixOf l) = some g → g.length ≤ k → G.find? (fun g => g.isPrefixOf (l.take k)) = some g
  | [], g, h, _ => by cases h
  | x :: G, g, h, hk => by
    rw [List.find?_cons] at h ⊢
    by_cases hx : x.isPrefixOf l = true
    · rw [hx] at h
      cases h
      have : x.isPrefixOf (l.take k) = true := by
        rw [List.isPrefixOf_iff_prefix] at hx ⊢
        exact List.prefix_take_iff.2 ⟨hx, hk⟩
      rw [this]
    · have hx' : x.isPrefixOf (l.take k) = false := by
        rw [Bool.eq_false_iff]
        intro h2
        apply hx
        rw [List.isPrefixOf_iff_prefix] at h2 ⊢
        exact h2.trans (List.take_prefix _ _)
      rw [Bool.eq_false_iff.2 hx] at h
      rw [hx']
      exact find_take l k G g h hk
theorem sign_take (l : List UInt8) (k : Nat) (hs : signL l ≠ []) (hk : (signL l).length ≤ k) : signL (l.take k) = signL l := by
  unfold signL at hs hk ⊢
  cases h : signsL.find? fun g => g.isPrefixOf l with
  | none => rw [h] at hs; exact absurd rfl hs
  | some g =>
    rw [h] at hk
    rw [find_take l k _ g h hk]
theorem num_dec (l : List UInt8) (hne : l ≠ []) (h : digB (decodeL l).1 = true) : (decodeL l).2 ≤ spanL digB l := by
  rw [spanL_step digB l hne, if_pos h]
  omega
theorem name_dec (l : List UInt8) (hne : l ≠ []) (h : runeB true (decodeL l).1 = true) : (decodeL l).2 ≤ spanL (runeB false) l := by
  have hn2 : runeB false (decodeL l).1 = true := by
    unfold runeB at h ⊢
    revert h
    cases letB (decodeL l).1 || decide ((((decodeL l).1 : Nat) : Int) = 95) <;> simp
  rw [spanL_step (runeB false) l hne, if_pos hn2]
  omega
theorem low_one (l : List UInt8) (hne : l ≠ []) (h : (decodeL l).1 < 128) : (decodeL l).2 = 1 := by
  obtain ⟨c, r, rfl⟩ := List.exists_cons_of_ne_nil hne
  by_cases hc : c.toNat < 128
  · rw [decodeL_low c r hc]
  · have := decodeL_high c r (by omega)
    omega
theorem sign_low (l : List UInt8) (hne : l ≠ []) (hs : signL l ≠ []) : (decodeL l).2 = 1 := by
  unfold signL at hs
  cases h : signsL.find? fun g => g.isPrefixOf l with
  | none => rw [h] at hs; exact absurd rfl hs
  | some g =>
    have h1 := List.find?_some h
    have h2 := List.mem_of_find?_eq_some h
    obtain ⟨r, rfl⟩ := List.isPrefixOf_iff_prefix.1 h1
    have hall : ∀ g ∈ signsL, g ≠ [] ∧ ∀ b ∈ g, b.toNat < 128 := by decide
    obtain ⟨a1, a2⟩ := hall g h2
    obtain ⟨c, g, rfl⟩ := List.exists_cons_of_ne_nil a1
    rw [List.cons_append, decodeL_low c _ (a2 c (List.mem_cons_self ..))]
/-- A word's first rune lies within it. -/
theorem word_dec (l : List UInt8) (hne : l ≠ []) (he : (wordL l).e = 0) : (decodeL l).2 ≤ (wordL l).len := by
  have hlen := (word_len l hne he).1
  unfold wordL at he hlen ⊢
  split
  · rename_i h39
    rw [if_pos h39] at hlen
    have := low_one l hne (by omega)
    omega
  · rename_i h39
    rw [if_neg h39] at he hlen
    split
    · rename_i hd
      rw [if_pos hd] at he
      have := num_dec l hne hd
      unfold numW at he ⊢
      split
      · exact this
      · rename_i hm
        rw [if_neg hm] at he
        exact absurd he (by simp [bad])
    · rename_i hd
      rw [if_neg hd] at he hlen
      split
      · rename_i hn
        rw [if_pos hn] at he
        have := name_dec l hne hn
        unfold nameW at he ⊢
        split
        · exact this
        · rename_i hk
          rw [if_neg hk] at he
          split
          · rename_i h32
            rw [if_pos h32] at he
            exact absurd he (by simp [bad])
          · exact this
      · rename_i hn
        rw [if_neg hn] at he hlen
        unfold signW at he hlen ⊢
        split
        · rename_i hs
          rw [if_pos hs] at he
          exact absurd he (by simp [bad])
        · rename_i hs
          rw [if_neg hs] at hlen
          rw [sign_low l hne hs]
          exact hlen
theorem word_take (l : List UInt8) (k : Nat) (hne : l ≠ []) (he : (wordL l).e = 0) (hk : (wordL l).len ≤ k) (hr : k = (wordL l).len ∨ (decodeL (l.drop (wordL l).len)).2 ≤ k - (wordL l).len) : wordL (l.take k) = wordL l := by
  have hdec := word_dec l hne he
  have hd := decodeL_take l k (by omega)
  unfold wordL at he hk hr ⊢
  rw [hd]
  split
  · rename_i h39
    rw [if_pos h39] at he hk
    unfold textW at he hk ⊢
    cases ht : textL l.tail with
    | none => rw [ht] at he; exact absurd he (by simp [bad])
    | some x =>
      rw [ht] at hk
      dsimp only at hk
      have : textL (l.take k).tail = some x := by
        unfold textL at ht ⊢
        cases hs : scanB l.tail with
        | none => rw [hs] at ht; cases ht
        | some y =>
          rw [hs] at ht
          dsimp only at ht
          split at ht
          · rename_i hv
            cases ht
            rw [tail_take', scan_take _ l.tail (Nat.le_refl _) x (k - 1) hs (by omega)]
            dsimp only
            rw [List.take_take, Nat.min_eq_left (by omega), if_pos hv]
          · cases ht
      rw [this]
  · rename_i h39
    rw [if_neg h39] at he hk hr
    split
    · rename_i hdg
      rw [if_pos hdg] at he hk hr
      unfold numW at he hk hr ⊢
      split at he
      · rename_i hm
        rw [if_pos hm] at hk hr
        dsimp only at hk hr
        rw [span_take digB _ l k (Nat.le_refl _) hk hr, List.take_take, Nat.min_eq_left hk]
      · exact absurd he (by simp [bad])
    · rename_i hdg
      rw [if_neg hdg] at he hk hr
      split
      · rename_i hn
        rw [if_pos hn] at he hk hr
        have hq : (nameW l).len = spanL (runeB false) l := by
          unfold nameW at he ⊢
          split
          · rfl
          · rename_i hkey
            rw [if_neg hkey] at he
            split
            · rename_i h32
              rw [if_pos h32] at he
              exact absurd he (by simp [bad])
            · rfl
        rw [hq] at hk hr
        unfold nameW
        rw [span_take (runeB false) _ l k (Nat.le_refl _) hk hr, List.take_take, Nat.min_eq_left hk]
      · rename_i hn
        rw [if_neg hn] at he hk hr
        unfold signW at he hk ⊢
        split at he
        · exact absurd he (by simp [bad])
        · rename_i hs
          rw [if_neg hs] at hk
          dsimp only at hk
          rw [sign_take l k hs hk]
theorem Lxs.ge {at' : Nat} {l : List UInt8} {L : List Tk} (h : Lxs at' l L) : ∀ x ∈ L, at' ≤ x.at' ∧ x.at' < at' + l.length := by
  induction h with
  | nil at' => intro x hx; cases hx
  | blank at' l L hne h r ih =>
    intro x hx
    have hp : 0 < l.length := List.length_pos_iff.2 hne
    have := ih x hx
    rw [List.length_drop] at this
    omega
  | word at' l L hne h he r ih =>
    intro x hx
    have hl := word_len l hne he
    rcases List.mem_cons.1 hx with rfl | hx
    · show at' ≤ at' ∧ at' < _
      omega
    · have := ih x hx
      rw [List.length_drop] at this
      omega
/-- Cut off at a word: the words ahead of it, and those from it on. -/
theorem Lxs.cut {at' : Nat} {l : List UInt8} {L : List Tk} (h : Lxs at' l L) : ∀ (i : Nat) (x : Tk), L[i]? = some x → (x.at' = at' ∨ (decodeL l).2 ≤ x.at' - at') ∧ Lxs at' (l.take (x.at' - at')) (L.take i) ∧ Lxs x.at' (l.drop (x.at' - at')) (L.drop i) := by
  induction h with
  | nil at' => intro i x hx; simp at hx
  | blank at' l L hne h r ih =>
    intro i x hx
    obtain ⟨h1, h2, h3⟩ := ih i x hx
    have hge := (r.ge x (List.mem_of_getElem? hx)).1
    obtain ⟨k, hk⟩ : ∃ k, x.at' = at' + 1 + k := ⟨x.at' - at' - 1, by omega⟩
    rw [show x.at' - (at' + 1) = k by omega] at h1 h2 h3
    rw [show x.at' - at' = k + 1 by omega]
    have hb := blank_one l hne h
    have hlt := (r.ge x (List.mem_of_getElem? hx)).2
    refine ⟨.inr (by omega), .blank _ _ _ ?_ ?_ ?_, ?_⟩
    · intro e
      have := congrArg List.length e
      have hp : 0 < l.length := List.length_pos_iff.2 hne
      rw [List.length_take, List.length_nil] at this
      omega
    · rw [decodeL_take l _ (by omega)]
      exact h
    · rw [List.drop_take]
      exact h2
    · rw [List.drop_drop, Nat.add_comm 1 k] at h3
      exact h3
  | word at' l L hne h he r ih =>
    intro i x hx
    have hl := word_len l hne he
    cases i with
    | zero =>
      cases hx
      refine ⟨.inl rfl, ?_, ?_⟩
      · show Lxs at' (l.take (at' - at')) _
        rw [Nat.sub_self, List.take_zero]
        exact .nil _
      · show Lxs at' (l.drop (at' - at')) _
        rw [Nat.sub_self]
        exact .word _ _ _ hne h he r
    | succ i =>
      rw [List.getElem?_cons_succ] at hx
      obtain ⟨h1, h2, h3⟩ := ih i x hx
      have hge := (r.ge x (List.mem_of_getElem? hx)).1
      obtain ⟨k, hk⟩ : ∃ k, x.at' = at' + (wordL l).len + k := ⟨x.at' - at' - (wordL l).len, by omega⟩
      rw [show x.at' - (at' + (wordL l).len) = k by omega] at h1 h2 h3
      rw [show x.at' - at' = (wordL l).len + k by omega]
      have hdec := word_dec l hne he
      have hw := word_take l ((wordL l).len + k) hne he (by omega) (by
        rcases h1 with h1 | h1
        · left; omega
        · right
          rw [show (wordL l).len + k - (wordL l).len = k by omega]
          exact h1)
      refine ⟨.inr (by omega), ?_, ?_⟩
      · have hq : tkL (wordL l) at' = tkL (wordL (l.take ((wordL l).len + k))) at' := by rw [hw]
        rw [List.take_succ_cons, hq]
        refine .word _ _ _ ?_ ?_ (by rw [hw]; exact he) ?_
        · intro e
          have := congrArg List.length e
          rw [List.length_take, List.length_nil] at this
          omega
        · rw [decodeL_take l _ (by omega)]
          exact h
        · rw [hw, List.drop_take, show (wordL l).len + k - (wordL l).len = k by omega]
          exact h2
      · rw [List.drop_succ_cons]
        rw [List.drop_drop] at h3
        exact h3
end Go.Proofs.YtefenbonjepjgaaGreatDoor
namespace Go.Proofs.YtefenbonjepjgaaGreatDoor
set_option linter.unusedSimpArgs false
set_option linter.unusedVariables false

/-- Read well, or refused here, for this reason. -/
def SaysR {α : Type} (r : Res α) (a y : Int) : Prop := match r with
  | .ok _ _ => a = 0 ∧ y = 0
  | .bad a' y' => a = a' ∧ y = y'
theorem ends_ok {α : Type} {E : Nat} {r : Res α} {x : α} {M : List Tk} (h : endP E r = .ok x M) : r = .ok x [] := by
  obtain ⟨y, C, h1, h2⟩ := then_ok.1 h
  split at h2
  · rename_i hc
    cases h2
    rw [h1, hc]
  · cases h2
theorem parse_okQ {s : List UInt8} {x : Qy} {M : List Tk} (h : parseL s = .ok x M) : (lexL s).2.2 = 0 ∧ queryP s.length ((lexL s).1.length + 1) (lexL s).1 = .ok x [] := by
  unfold parseL at h
  split at h
  · exact ⟨‹_›, ends_ok h⟩
  · cases h
theorem parse_bad {s : List UInt8} {a : Nat} {y : Int} (h : parseL s = .bad a y) : y ≠ 0 := by
  unfold parseL at h
  split at h
  · have hl := late_query (E := s.length) (lexL s).1 (Nat.lt_succ_self _)
    cases hr : queryP s.length ((lexL s).1.length + 1) (lexL s).1 with
    | ok x C =>
      rw [hr] at h
      unfold endP Res.then at h
      dsimp only at h
      split at h
      · cases h
      · cases h
        decide
    | bad b z =>
      rw [hr] at h hl
      cases h
      obtain ⟨T, _, _, h0⟩ := hl
      omega
  · cases h
    assumption
theorem parse_words {s : List UInt8} {x : Qy} {M : List Tk} (h : parseL s = .ok x M) : (lexL s).1 ≠ [] := by
  intro e
  have := (parse_okQ h).2
  rw [e] at this
  cases this
/-- Cut off ahead of a word. -/
theorem parse_cut {s : List UInt8} {x : Qy} {M : List Tk} (h : parseL s = .ok x M) (i : Nat) (t : Tk) (ht : (lexL s).1[i]? = some t) {a y : Int} (hs : SaysR (parseL (s.take t.at')) a y) : t.at' < s.length ∧ (y = 0 ∨ y = 81 ∧ a = t.at') := by
  obtain ⟨h1, h2⟩ := parse_okQ h
  obtain ⟨hz, hx⟩ := lexL_lxs h1
  have hlt := (hx.ge t (List.mem_of_getElem? ht)).2
  have hc := (hx.cut i t ht).2.1
  rw [Nat.sub_zero] at hc
  have hlen : (s.take t.at').length = t.at' := by rw [List.length_take]; omega
  have hq := lxs_lexL hc (by rw [hlen]; omega)
  refine ⟨by omega, ?_⟩
  have hp : parseL (s.take t.at') = endP t.at' (queryP t.at' (((lexL s).1.take i).length + 1) ((lexL s).1.take i)) := by
    unfold parseL
    rw [hq, hlen, if_pos rfl]
  rw [hp] at hs
  have hk := cut_query (E := t.at') (E' := s.length) (R := (lexL s).1.drop i) (n := ((lexL s).1.take i).length + 1) (b := (lexL s).1.length + 1) ((lexL s).1.take i) (Nat.lt_succ_self _) (by rw [List.take_append_drop]; exact Nat.lt_succ_self _)
  rw [List.take_append_drop, h2] at hk
  cases hr : queryP t.at' (((lexL s).1.take i).length + 1) ((lexL s).1.take i) with
  | ok z C =>
    rw [hr] at hs hk
    by_cases hn : C = []
    · subst hn
      exact .inl hs.2
    · have := hk.2.1 hn
      injection this with _ e
      exact absurd (List.append_eq_nil_iff.1 e.symm).1 hn
  | bad b z =>
    rw [hr] at hs hk
    obtain ⟨rfl, rfl⟩ := hs
    rcases hk with ⟨_, e⟩ | ⟨e1, e2, _⟩
    · cases e
    · exact .inr ⟨e2, by rw [e1]⟩
/-- With more behind. -/
theorem parse_more {s more : List UInt8} {x : Qy} {M : List Tk} (h : parseL s = .ok x M) (hz : s.length + more.length + 1 ≤ 4096) (hm : (lexL more).2.2 = 0) {a y : Int} (hs : SaysR (parseL (s ++ 32 :: more)) a y) : y = 0 ∨ (s.length : Int) < a := by
  obtain ⟨h1, h2⟩ := parse_okQ h
  obtain ⟨_, hx⟩ := lexL_lxs h1
  obtain ⟨_, hy⟩ := lexL_lxs hm
  have hmv := hy.moved (0 + s.length + 1)
  rw [Nat.zero_add] at hmv
  have hj := hx.join (by rw [Nat.zero_add]; rw [show 0 + s.length + 1 = s.length + 1 by omega] at hmv; exact hmv)
  have hlen : (s ++ 32 :: more).length = s.length + more.length + 1 := by rw [List.length_append, List.length_cons]; omega
  have hq := lxs_lexL hj (by rw [hlen]; omega)
  generalize hR : (lexL more).1.map (mvT (s.length + 1)) = R at *
  have hpl : ∀ t ∈ R, s.length < t.at' := by
    intro t ht
    rw [← hR] at ht
    obtain ⟨u, _, rfl⟩ := List.mem_map.1 ht
    show s.length < u.at' + (s.length + 1)
    omega
  have hp : parseL (s ++ 32 :: more) = endP (s.length + more.length + 1) (queryP (s.length + more.length + 1) (((lexL s).1 ++ R).length + 1) ((lexL s).1 ++ R)) := by
    unfold parseL
    rw [hq, hlen, if_pos rfl]
  rw [hp] at hs
  have hk := cut_query (E := s.length) (E' := s.length + more.length + 1) (R := R) (n := (lexL s).1.length + 1) (b := ((lexL s).1 ++ R).length + 1) (lexL s).1 (Nat.lt_succ_self _) (Nat.lt_succ_self _)
  rw [h2] at hk
  have hl := hk.2.2 rfl
  have hT : ∀ S, S <:+ R → s.length < placeL (s.length + more.length + 1) S := by
    intro S hS
    cases S with
    | nil => show s.length < s.length + more.length + 1; omega
    | cons t S => exact hpl t (hS.subset (List.mem_cons_self ..))
  cases hr : queryP (s.length + more.length + 1) (((lexL s).1 ++ R).length + 1) ((lexL s).1 ++ R) with
  | ok z C =>
    rw [hr] at hs hl
    have hc := hT C hl
    unfold endP Res.then at hs
    dsimp only at hs
    split at hs
    · exact .inl hs.2
    · obtain ⟨rfl, _⟩ := hs
      exact .inr (by omega)
  | bad b z =>
    rw [hr] at hs hl
    obtain ⟨rfl, _⟩ := hs
    obtain ⟨T, t1, t2, _⟩ := hl
    have := hT T t1
    exact .inr (by omega)
end Go.Proofs.YtefenbonjepjgaaGreatDoor
namespace Go.Proofs.YtefenbonjepjgaaGreatDoor
set_option linter.unusedSimpArgs false
set_option linter.unusedVariables false

/-- A word without its place. -/
def bareT (t : Tk) : Tk := ⟨t.k, t.t, t.n, 0⟩
def Res.er {α : Type} : Res α → Res α
  | .ok x L => .ok x (L.map bareT)
  | .bad _ y => .bad 0 y
section
variable {α β : Type} {E : Nat}
theorem isW_er (s : List UInt8) (L : List Tk) : isW s (L.map bareT) = isW s L := by cases L <;> rfl
theorem kind_er (L : List Tk) : kindL (L.map bareT) = kindL L := by cases L <;> rfl
theorem head_er (E : Nat) (L : List Tk) : headL 0 (L.map bareT) = bareT (headL E L) := by cases L <;> rfl
theorem place_er (L : List Tk) : placeL 0 (L.map bareT) = 0 := by cases L <;> rfl
theorem tail_er (L : List Tk) : (L.map bareT).tail = L.tail.map bareT := by cases L <;> rfl
theorem op_er (ops : List (List UInt8 × Int)) (L : List Tk) : opOf ops (L.map bareT) = opOf ops L := by
  unfold opOf
  have : (fun o : List UInt8 × Int => isW o.1 (L.map bareT)) = fun o => isW o.1 L := funext fun o => isW_er _ _
  rw [this]
theorem er_ok (x : α) (L : List Tk) : (Res.ok x L).er = .ok x (L.map bareT) := rfl
theorem er_bad (y : Int) (L : List Tk) : (Res.bad (α := α) (placeL E L) y).er = .bad (placeL 0 (L.map bareT)) y := by rw [place_er]; rfl
theorem er_then {r r' : Res α} {f f' : α → List Tk → Res β} (h : r.er = r') (hf : ∀ x C, (f x C).er = f' x (C.map bareT)) : (r.then f).er = r'.then f' := by
  subst h
  cases r with
  | ok x C => exact hf x C
  | bad a y => rfl
theorem er_ite {c c' : Prop} [Decidable c] [Decidable c'] {a b a' b' : Res α} (hc : c' ↔ c) (ha : a.er = a') (hb : b.er = b') : (if c then a else b).er = if c' then a' else b' := by
  by_cases h : c
  · rw [if_pos h, if_pos (hc.2 h)]
    exact ha
  · rw [if_neg h, if_neg fun k => h (hc.1 k)]
    exact hb
theorem isW_eri (s : List UInt8) (L : List Tk) : isW s (L.map bareT) = true ↔ isW s L = true := by rw [isW_er]
theorem er_must (s : List UInt8) (L : List Tk) : (mustL E s L).er = mustL 0 s (L.map bareT) := er_ite (isW_eri s L) (by rw [tail_er]; rfl) (er_bad _ _)
theorem er_musts : ∀ (l : List (List UInt8)) (L : List Tk), (mustsL E l L).er = mustsL 0 l (L.map bareT)
  | [], L => rfl
  | s :: r, L => er_then (er_must s L) fun _ C => er_musts r C
theorem er_name (L : List Tk) : (nameP E L).er = nameP 0 (L.map bareT) := er_ite (by rw [kind_er]) (by rw [tail_er, head_er E]; rfl) (er_bad _ _)
theorem er_num (lo hi : Int) (L : List Tk) : (numP E lo hi L).er = numP 0 lo hi (L.map bareT) := er_ite (by rw [kind_er, head_er E]; exact Iff.rfl) (by rw [tail_er, head_er E]; rfl) (er_bad _ _)
end
def EP (p p' : PR) : Prop := ∀ d L, (p d L).er = p' d (L.map bareT)
section
variable {E : Nat} {p p' e e' m m' : PR}
theorem EP.deep (h : EP p p') : EP (deepP E p) (deepP 0 p') := fun d L => er_ite Iff.rfl (er_bad _ _) (by rw [tail_er]; exact h _ _)
theorem EP.inside (h : EP p p') : EP (insideP E p) (insideP 0 p') := fun d L => er_ite (isW_eri _ L) (er_then (h.deep d L) fun x C => er_then (er_must _ C) fun _ D => rfl) (er_bad _ _)
theorem er_levelG (ops : List (List UInt8 × Int)) (h : EP p p') (d : Nat) : ∀ (n : Nat) (x : Ex) (L : List Tk), (levelG ops p d n x L).er = levelG ops p' d n x (L.map bareT)
  | 0, x, L => rfl
  | n + 1, x, L => er_ite (by rw [op_er]) rfl (by rw [tail_er, op_er]; exact er_then (h d L.tail) fun y C => er_levelG ops h d n _ C)
theorem EP.level (ops : List (List UInt8 × Int)) (h : EP p p') : EP (levelP ops p) (levelP ops p') := fun d L => er_then (h d L) fun x C => by
  rw [List.length_map]
  exact er_levelG ops h d _ x C
theorem EP.count (h : EP e e') : EP (countP E e) (countP 0 e') := fun d L => er_ite (isW_eri _ L) (by rw [tail_er]; rfl) (er_then (h d L) fun x C => rfl)
theorem EP.keyed (h : EP e e') : EP (keyedP E e) (keyedP 0 e') := fun d L =>
  er_ite (isW_eri _ L) (by rw [tail_er]; rfl) (er_ite (isW_eri _ L) (by rw [tail_er]; rfl) (er_ite (isW_eri _ L) (by rw [tail_er]; rfl) (er_ite (isW_eri _ L) (by rw [tail_er]; exact h.count.inside d L.tail)
    (er_ite (by rw [op_er]) (er_bad _ _) (by rw [tail_er, op_er]; exact er_then (h.inside d L.tail) fun x C => rfl)))))
theorem er_named : EP (namedP E) (namedP 0) := fun d L => er_then (er_name L) fun x C => er_ite (isW_eri _ C) (by rw [tail_er]; exact er_then (er_name C.tail) fun y D => rfl) rfl
theorem EP.plain (h : EP e e') : EP (plainP E e) (plainP 0 e') := fun d L =>
  er_ite (by rw [kind_er]) (by rw [tail_er, head_er E]; rfl) (er_ite (by rw [kind_er]) (by rw [tail_er, head_er E]; rfl) (er_ite (by rw [kind_er]) (er_named d L) (er_ite (by rw [kind_er]) (h.keyed d L) (h.inside d L))))
theorem EP.minus (hm : EP m m') (he : EP e e') : EP (minusP E m e) (minusP 0 m' e') := fun d L => er_ite (isW_eri _ L) (er_then (hm.deep d L) fun x C => rfl) (he.plain d L)
theorem EP.sum (h : EP m m') : EP (sumP m) (sumP m') := EP.level _ (EP.level _ h)
theorem EP.test (h : EP m m') : EP (testP E m) (testP 0 m') := fun d L => er_then (h.sum d L) fun x C =>
  er_ite (isW_eri _ C) (by
      rw [tail_er, tail_er]
      exact er_ite (isW_eri _ C.tail) (er_then (er_must _ _) fun _ D => rfl) (er_then (er_must _ _) fun _ D => rfl))
    (er_ite (by rw [op_er]) rfl (by rw [tail_er, op_er]; exact er_then (h.sum d C.tail) fun y D => rfl))
theorem EP.deny (hp : EP p p') (hm : EP m m') : EP (denyP E p m) (denyP 0 p' m') := fun d L => er_ite (isW_eri _ L) (er_then (hp.deep d L) fun x C => rfl) (hm.test d L)
theorem EP.expr (h : EP p p') : EP (exprP p) (exprP p') := EP.level _ (EP.level _ h)
end
theorem ep_lay (E : Nat) : ∀ n, EP (lay E n).1 (lay 0 n).1 ∧ EP (lay E n).2.1 (lay 0 n).2.1 ∧ EP (lay E n).2.2 (lay 0 n).2.2
  | 0 => ⟨fun d L => rfl, fun d L => rfl, fun d L => rfl⟩
  | n + 1 => by
    obtain ⟨h1, h2, h3⟩ := ep_lay E n
    exact ⟨h1.minus h3, h2.deny (h1.minus h3), (h2.deny (h1.minus h3)).expr⟩
section
variable {E : Nat}
theorem er_naQ (v : List UInt8) (L : List Tk) : (naQ E v L).er = naQ 0 v (L.map bareT) := er_ite (isW_eri _ L) (by rw [tail_er]; exact er_then (er_name L.tail) fun y D => rfl) rfl
theorem er_na (L : List Tk) : (naP E L).er = naP 0 (L.map bareT) := by
  rw [na_eq, na_eq]
  have : passNameP 0 (L.map bareT) = ((passNameP E L).1, (passNameP E L).2.map bareT) := by
    unfold passNameP
    rw [kind_er, head_er E, tail_er]
    split <;> rfl
  rw [this]
  exact er_naQ _ _
theorem er_node (L : List Tk) : (nodeP E L).er = nodeP 0 (L.map bareT) := er_then (er_must _ L) fun _ C => er_then (er_na C) fun x D => er_then (er_must _ D) fun _ F => rfl
theorem er_starQ (x : List UInt8 × List UInt8) (L : List Tk) : (starQ E x L).er = starQ 0 x (L.map bareT) :=
  er_ite (isW_eri _ L) (by rw [tail_er]; exact er_then (er_num _ _ L.tail) fun y D => rfl) (er_then (er_num _ _ L) fun lo C => er_then (er_must _ C) fun _ D => er_then (er_num _ _ D) fun hi F => rfl)
theorem er_body (L : List Tk) : (bodyP E L).er = bodyP 0 (L.map bareT) := er_then (er_na L) fun x C => er_ite (by rw [isW_er]) rfl (by rw [tail_er]; exact er_starQ x C.tail)
theorem er_edgeE (g : Bool) (x : Ed) (L : List Tk) : (edgeE E g x L).er = edgeE 0 g x (L.map bareT) := er_ite Iff.rfl rfl (er_then (er_must _ L) fun _ C => rfl)
theorem er_edgeQ (g : Bool) (L : List Tk) : (edgeQ E g L).er = edgeQ 0 g (L.map bareT) :=
  er_then (er_musts _ L) fun _ C => er_then (er_body C) fun x D => er_then (er_musts _ D) fun _ F => er_edgeE g x F
theorem lt_er (s : List UInt8) (L : List Tk) : (if isW s (L.map bareT) = true then (L.map bareT).tail else L.map bareT) = (if isW s L = true then L.tail else L).map bareT := by
  rw [isW_er, tail_er]
  split <;> rfl
theorem er_edge (L : List Tk) : (edgeP E L).er = edgeP 0 (L.map bareT) := by
  rw [edge_eq, edge_eq, lt_er, isW_er]
  exact er_edgeQ _ _
theorem er_pattG : ∀ (k : Nat) (p : Pt) (L : List Tk), (pattG E k p L).er = pattG 0 k p (L.map bareT)
  | 0, p, L => rfl
  | k + 1, p, L => er_ite (by rw [isW_er, isW_er]) (er_then (er_edge L) fun x C => er_then (er_node C) fun y D => er_pattG k _ D) rfl
theorem er_patt (L : List Tk) : (pattP E L).er = pattP 0 (L.map bareT) := er_then (er_node L) fun x C => by
  rw [List.length_map]
  exact er_pattG _ _ C
theorem er_listG {α : Type} {p p' : List Tk → Res α} (h : ∀ L, (p L).er = p' (L.map bareT)) : ∀ (k : Nat) (l : List α) (L : List Tk), (listG p k l L).er = listG p' k l (L.map bareT)
  | 0, l, L => rfl
  | k + 1, l, L => er_ite (isW_eri _ L) (by rw [tail_er]; exact er_then (h L.tail) fun x C => er_listG h k _ C) rfl
theorem er_list {α : Type} {p p' : List Tk → Res α} (h : ∀ L, (p L).er = p' (L.map bareT)) (L : List Tk) : (listP p L).er = listP p' (L.map bareT) := er_then (h L) fun x C => by
  rw [List.length_map]
  exact er_listG h _ _ C
theorem er_item (N : Nat) (L : List Tk) : (itemP E N L).er = itemP 0 N (L.map bareT) := er_then ((ep_lay E N).2.2 0 L) fun x C => er_ite (isW_eri _ C) (by rw [tail_er]; exact er_then (er_name C.tail) fun y D => rfl) rfl
theorem er_key (L : List Tk) : (keyP E L).er = keyP 0 (L.map bareT) := er_then (er_name L) fun x C => er_ite (isW_eri _ C) (by rw [tail_er]; rfl) (er_ite (isW_eri _ C) (by rw [tail_er]; rfl) rfl)
theorem er_where (N : Nat) (L : List Tk) : (whereP E N L).er = whereP 0 N (L.map bareT) := er_ite (isW_eri _ L) (by rw [tail_er]; exact er_then ((ep_lay E N).2.2 0 L.tail) fun y D => rfl) rfl
theorem er_keys (L : List Tk) : (keysP E L).er = keysP 0 (L.map bareT) := er_ite (isW_eri _ L) (by rw [tail_er]; exact er_then (er_must _ L.tail) fun _ D => er_list (fun M => er_key M) D) rfl
theorem er_lim (L : List Tk) : (limP E L).er = limP 0 (L.map bareT) := er_ite (isW_eri _ L) (by rw [tail_er]; exact er_num _ _ L.tail) rfl
theorem er_query (N : Nat) (L : List Tk) : (queryP E N L).er = queryP 0 N (L.map bareT) := by
  rw [query_eq, query_eq]
  refine er_then (er_must _ L) fun _ C => er_then (er_list (fun M => er_patt M) C) fun ps D => er_then (er_where N D) fun wh F => er_then (er_must _ F) fun _ G => ?_
  unfold distQ
  rw [lt_er, isW_er]
  exact er_then (er_list (fun M => er_item N M) _) fun is H => er_then (er_keys H) fun ks I => er_then (er_lim I) fun n J => rfl
theorem er_end {α : Type} {r r' : Res α} (h : r.er = r') : (endP E r).er = endP 0 r' := er_then h fun x C => er_ite (by simp) rfl (er_bad _ _)
end
/-- Texts of the same words, but for their places, are read alike. -/
theorem parse_same {s t : List UInt8} (hs : (lexL s).2.2 = 0) (ht : (lexL t).2.2 = 0) (h : (lexL s).1.map bareT = (lexL t).1.map bareT) : (parseL s).er = (parseL t).er ∧ (parseEL s).er = (parseEL t).er := by
  have hl : (lexL s).1.length = (lexL t).1.length := by
    have := congrArg List.length h
    rwa [List.length_map, List.length_map] at this
  constructor
  · unfold parseL
    rw [if_pos hs, if_pos ht, er_end (er_query _ _), er_end (er_query _ _), h, hl]
  · unfold parseEL exprL
    rw [if_pos hs, if_pos ht, er_end ((ep_lay _ _).2.2 0 _), er_end ((ep_lay _ _).2.2 0 _), h, hl]
theorem er_cases {α : Type} {r r' : Res α} (h : r.er = r'.er) : (∃ x L L', r = .ok x L ∧ r' = .ok x L') ∨ (∃ a a' y, r = .bad a y ∧ r' = .bad a' y) := by
  cases r with
  | ok x L =>
    cases r' with
    | ok x' L' => cases (show x = x' by injection h); exact .inl ⟨x, L, L', rfl, rfl⟩
    | bad a y => cases h
  | bad a y =>
    cases r' with
    | ok x' L' => cases h
    | bad a' y' => cases (show y = y' by injection h); exact .inr ⟨a, a', y, rfl, rfl⟩
end Go.Proofs.YtefenbonjepjgaaGreatDoor
