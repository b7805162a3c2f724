/-
  Words cut off, or with more behind: each reader looks one word ahead, so what it made of the words up to there stands.
-/
import Derived.Test.YtefenbonjepjgaaGreatDoorSyl
namespace Go.Proofs.YtefenbonjepjgaaGreatDoor
set_option linter.unusedSimpArgs false
set_option linter.unusedVariables false

/-- What is left over is an end of the words, or the place of the fault is one of theirs, or their end. -/
def Late {α : Type} (E : Nat) (S : List Tk) : Res α → Prop
  | .ok _ C => C <:+ S
  | .bad a y => ∃ T, T <:+ S ∧ a = placeL E T ∧ 0 < y
/-- What a reader makes of words, and of the same with others behind. -/
def CutR {α : Type} (E E' : Nat) (R L : List Tk) (r r' : Res α) : Prop :=
  match r with
  | .ok x C => C <:+ L ∧ (C ≠ [] → r' = .ok x (C ++ R)) ∧ (C = [] → Late E' R r')
  | .bad a y => (L ≠ [] ∧ r' = .bad a y) ∨ (a = E ∧ y = 81 ∧ Late E' R r')
/-- Comes to the end of the words, be it well or not. -/
def EndR {α : Type} (E : Nat) : Res α → Prop
  | .ok _ C => C = []
  | .bad a y => a = E ∧ y = 81
section
variable {α β : Type} {E E' : Nat} {R L S : List Tk}
theorem suf_tail (L : List Tk) : L.tail <:+ L := List.tail_suffix L
theorem Late.of {T : List Tk} {r : Res α} (h : Late E T r) (ht : T <:+ S) : Late E S r := by
  cases r with
  | ok x C => exact List.IsSuffix.trans h ht
  | bad a y =>
    obtain ⟨U, h1, h2⟩ := h
    exact ⟨U, h1.trans ht, h2⟩
theorem late_ok (x : α) {C : List Tk} (h : C <:+ S) : Late E S (.ok x C) := h
theorem late_bad {T : List Tk} (y : Int) (h : T <:+ S) (hy : 0 < y := by decide) : Late (α := α) E S (.bad (placeL E T) y) := ⟨T, h, rfl, hy⟩
theorem Late.then {r : Res α} {f : α → List Tk → Res β} (h : Late E S r) (hf : ∀ x T, T <:+ S → Late E T (f x T)) : Late E S (r.then f) := by
  cases r with
  | ok x C => exact (hf x C h).of h
  | bad a y => exact h
theorem late_ite {c : Prop} [Decidable c] {a b : Res α} (ha : c → Late E S a) (hb : ¬ c → Late E S b) : Late E S (if c then a else b) := by
  split
  · exact ha ‹_›
  · exact hb ‹_›
theorem CutR.end {r r' : Res α} (h : CutR E E' R [] r r') : EndR E r := by
  cases r with
  | ok x C => exact List.suffix_nil.1 h.1
  | bad a y =>
    rcases h with ⟨h, _⟩ | ⟨h1, h2, _⟩
    · exact absurd rfl h
    · exact ⟨h1, h2⟩
theorem cut_end {r r' : Res α} (h : EndR E r) (hl : Late E' R r') : CutR E E' R L r r' := by
  cases r with
  | ok x C =>
    cases (h : C = [])
    exact ⟨List.nil_suffix, fun h => absurd rfl h, fun _ => hl⟩
  | bad a y => exact .inr ⟨h.1, h.2, hl⟩
theorem CutR.of {M : List Tk} {r r' : Res α} (h : CutR E E' R M r r') (hm : M <:+ L) : CutR E E' R L r r' := by
  cases r with
  | ok x C => exact ⟨h.1.trans hm, h.2⟩
  | bad a y =>
    rcases h with ⟨h1, h2⟩ | h
    · refine .inl ⟨fun e => h1 ?_, h2⟩
      subst e
      exact List.suffix_nil.1 hm
    · exact .inr h
theorem CutR.then {r r' : Res α} {f f' : α → List Tk → Res β} (h : CutR E E' R L r r') (hf : ∀ x C, C <:+ L → CutR E E' R C (f x C) (f' x (C ++ R))) (hl : ∀ x S, S <:+ R → Late E' S (f' x S)) : CutR E E' R L (r.then f) (r'.then f') := by
  cases r with
  | ok x C =>
    by_cases hc : C = []
    · subst hc
      exact cut_end (hf x [] List.nil_suffix).end ((h.2.2 rfl).then hl)
    · rw [h.2.1 hc]
      exact (hf x C h.1).of h.1
  | bad a y =>
    rcases h with ⟨h1, h2⟩ | ⟨h1, h2, h3⟩
    · rw [h2]
      exact .inl ⟨h1, rfl⟩
    · exact .inr ⟨h1, h2, h3.then hl⟩
theorem CutR.then' {r r' : Res α} {f f' : α → List Tk → Res β} (h : CutR E E' R L r r') (hf : ∀ x C, r = .ok x C → C <:+ L → CutR E E' R C (f x C) (f' x (C ++ R))) (hl : ∀ x S, S <:+ R → Late E' S (f' x S)) : CutR E E' R L (r.then f) (r'.then f') := by
  cases r with
  | ok x C =>
    by_cases hc : C = []
    · subst hc
      exact cut_end (hf x [] rfl List.nil_suffix).end ((h.2.2 rfl).then hl)
    · rw [h.2.1 hc]
      exact (hf x C rfl h.1).of h.1
  | bad a y =>
    rcases h with ⟨h1, h2⟩ | ⟨h1, h2, h3⟩
    · rw [h2]
      exact .inl ⟨h1, rfl⟩
    · exact .inr ⟨h1, h2, h3.then hl⟩
theorem cut_ok (x : α) {C : List Tk} (h : C <:+ L) (hl : C = [] → Late (α := α) E' R (.ok x (C ++ R))) : CutR E E' R L (.ok x C) (.ok x (C ++ R)) := ⟨h, fun _ => rfl, hl⟩
theorem cut_ok' (x : α) {C : List Tk} (h : C <:+ L) : CutR E E' R L (.ok x C) (.ok x (C ++ R)) := cut_ok x h fun e => by subst e; exact List.suffix_refl _
/-- Where a word stands ahead, both look at it alike. -/
theorem cut_ite {c c' : Prop} [Decidable c] [Decidable c'] {a b a' b' : Res α} (hc : L ≠ [] → (c' ↔ c)) (h0 : L = [] → EndR E (if c then a else b)) (hl : L = [] → Late E' R (if c' then a' else b'))
    (ha : L ≠ [] → c → CutR E E' R L a a') (hb : L ≠ [] → ¬ c → CutR E E' R L b b') : CutR E E' R L (if c then a else b) (if c' then a' else b') := by
  by_cases hn : L = []
  · exact cut_end (h0 hn) (hl hn)
  · have := hc hn
    by_cases h : c
    · rw [if_pos h, if_pos (this.2 h)]
      exact ha hn h
    · rw [if_neg h, if_neg fun k => h (this.1 k)]
      exact hb hn h
theorem isW_app (s : List UInt8) (hn : L ≠ []) : isW s (L ++ R) = isW s L := by
  cases L with
  | nil => exact absurd rfl hn
  | cons t L => rfl
theorem isW_iff (s : List UInt8) (hn : L ≠ []) : isW s (L ++ R) = true ↔ isW s L = true := by rw [isW_app s hn]
theorem kind_app (hn : L ≠ []) : kindL (L ++ R) = kindL L := by
  cases L with
  | nil => exact absurd rfl hn
  | cons t L => rfl
theorem head_app (hn : L ≠ []) : headL E' (L ++ R) = headL E L := by
  cases L with
  | nil => exact absurd rfl hn
  | cons t L => rfl
theorem place_app (hn : L ≠ []) : placeL E' (L ++ R) = placeL E L := by
  cases L with
  | nil => exact absurd rfl hn
  | cons t L => rfl
theorem op_app (ops : List (List UInt8 × Int)) (hn : L ≠ []) : opOf ops (L ++ R) = opOf ops L := by
  unfold opOf
  have : (fun o : List UInt8 × Int => isW o.1 (L ++ R)) = fun o => isW o.1 L := funext fun o => isW_app _ hn
  rw [this]
theorem tail_app (hn : L ≠ []) : (L ++ R).tail = L.tail ++ R := by
  cases L with
  | nil => exact absurd rfl hn
  | cons t L => rfl
theorem op_nil (ops : List (List UInt8 × Int)) : opOf ops [] = 0 := by
  unfold opOf
  have : ops.find? (fun o => isW o.1 []) = none := List.find?_eq_none.2 fun o _ => by simp [isW]
  rw [this]
theorem ne_of_isW {s : List UInt8} (h : isW s L = true) : L ≠ [] := by
  intro e
  subst e
  cases h
theorem ne_of_op {ops : List (List UInt8 × Int)} (h : ¬ opOf ops L = 0) : L ≠ [] := by
  intro e
  subst e
  exact h (op_nil ops)
theorem cut_badw (hn : L ≠ []) (y : Int) : CutR (α := α) E E' R L (.bad (placeL E L) y) (.bad (placeL E' (L ++ R)) y) := by
  rw [place_app (E := E) hn]
  exact .inl ⟨hn, rfl⟩
theorem tail_lt (hn : L ≠ []) : L.tail.length < L.length := by
  cases L with
  | nil => exact absurd rfl hn
  | cons t L => simp

theorem late_must (s : List UInt8) (S : List Tk) : Late E S (mustL E s S) := late_ite (fun _ => late_ok _ (suf_tail S)) (fun _ => late_bad _ (List.suffix_refl _))
theorem cut_must (s : List UInt8) (L : List Tk) : CutR E E' R L (mustL E s L) (mustL E' s (L ++ R)) :=
  cut_ite (isW_iff s) (fun e => by subst e; exact ⟨rfl, rfl⟩) (fun e => by subst e; exact late_must s R)
    (fun hn _ => by rw [tail_app hn]; exact cut_ok' _ (suf_tail L)) (fun hn _ => cut_badw hn _)
theorem late_musts : ∀ (l : List (List UInt8)) (S : List Tk), Late E S (mustsL E l S)
  | [], S => late_ok _ (List.suffix_refl _)
  | s :: r, S => (late_must s S).then fun _ T _ => late_musts r T
theorem cut_musts : ∀ (l : List (List UInt8)) (L : List Tk), CutR E E' R L (mustsL E l L) (mustsL E' l (L ++ R))
  | [], L => cut_ok' _ (List.suffix_refl _)
  | s :: r, L => (cut_must s L).then (fun _ C _ => cut_musts r C) fun _ S _ => late_musts r S
theorem late_name (S : List Tk) : Late E S (nameP E S) := late_ite (fun _ => late_ok _ (suf_tail S)) (fun _ => late_bad _ (List.suffix_refl _))
theorem cut_name (L : List Tk) : CutR E E' R L (nameP E L) (nameP E' (L ++ R)) :=
  cut_ite (fun hn => by rw [kind_app hn]) (fun e => by subst e; exact ⟨rfl, rfl⟩) (fun e => by subst e; exact late_name R)
    (fun hn _ => by rw [tail_app hn, head_app (E := E) hn]; exact cut_ok' _ (suf_tail L)) (fun hn _ => cut_badw hn _)
theorem late_num (lo hi : Int) (S : List Tk) : Late E S (numP E lo hi S) := late_ite (fun _ => late_ok _ (suf_tail S)) (fun _ => late_bad _ (List.suffix_refl _))
theorem cut_num (lo hi : Int) (L : List Tk) : CutR E E' R L (numP E lo hi L) (numP E' lo hi (L ++ R)) :=
  cut_ite (fun hn => by rw [kind_app hn, head_app (E := E) hn]) (fun e => by
      subst e
      rw [if_neg (by intro h; exact absurd h.1 (by decide))]
      exact ⟨rfl, rfl⟩) (fun e => by subst e; exact late_num lo hi R)
    (fun hn _ => by rw [tail_app hn, head_app (E := E) hn]; exact cut_ok' _ (suf_tail L)) (fun hn _ => cut_badw hn _)
end

/-- Of fewer words than b: ends or places of theirs. -/
def LP (E b : Nat) (p : PR) : Prop := ∀ d S, S.length < b → Late E S (p d S)
/-- Of fewer words than n, and than b with those behind. -/
def CP (E E' : Nat) (R : List Tk) (n b : Nat) (p p' : PR) : Prop := ∀ d L, L.length < n → (L ++ R).length < b → CutR E E' R L (p d L) (p' d (L ++ R))
section
variable {E E' n b : Nat} {R : List Tk} {p p' e e' m m' : PR}
theorem suf_lt {b : Nat} {S T : List Tk} (h : T <:+ S) (hs : S.length < b) : T.length < b := Nat.lt_of_le_of_lt h.length_le hs
theorem app_lt {b : Nat} {S T : List Tk} (h : T <:+ S) (hs : (S ++ R).length < b) : (T ++ R).length < b := by
  have := h.length_le
  rw [List.length_append] at hs ⊢
  omega
theorem suf_lt' {b : Nat} {S T : List Tk} (hR : S <:+ R) (hs : (T ++ R).length < b) : S.length < b := by
  have := hR.length_le
  rw [List.length_append] at hs
  omega
theorem late_deep (h : LP E b p) (d : Nat) (S : List Tk) (hn : S ≠ []) (hs : S.length < b + 1) : Late E S (deepP E p d S) :=
  late_ite (fun _ => late_bad _ (List.suffix_refl _)) (fun _ => (h _ _ (by have := tail_lt hn; omega)).of (suf_tail S))
theorem cut_deep (h : CP E E' R n b p p') (d : Nat) (L : List Tk) (hn : L ≠ []) (hl : L.length < n + 1) (hs : (L ++ R).length < b + 1) : CutR E E' R L (deepP E p d L) (deepP E' p' d (L ++ R)) :=
  cut_ite (fun _ => Iff.rfl) (fun e => absurd e hn) (fun e => absurd e hn) (fun _ _ => cut_badw hn _) (fun _ _ => by
    have ht := tail_lt hn
    rw [tail_app hn]
    refine (h _ _ (by omega) ?_).of (suf_tail L)
    rw [List.length_append] at hs ⊢
    omega)
theorem LP.inside (h : LP E b p) : LP E (b + 1) (insideP E p) := fun d S hs =>
  late_ite (fun hw => (late_deep h d S (ne_of_isW hw) hs).then fun x T ht => (late_must _ T).then fun _ U _ => late_ok _ (List.suffix_refl _)) (fun _ => late_bad _ (List.suffix_refl _))
theorem CP.inside (h : CP E E' R n b p p') (hl : LP E' b p') : CP E E' R (n + 1) (b + 1) (insideP E p) (insideP E' p') := fun d L h1 h2 =>
  cut_ite (isW_iff _) (fun e => by subst e; exact ⟨rfl, rfl⟩) (fun e => by subst e; exact hl.inside d R h2)
    (fun hn _ => (cut_deep h d L hn h1 h2).then (fun x C _ => (cut_must _ C).then (fun _ D _ => cut_ok' _ (List.suffix_refl _)) fun _ S _ => late_ok _ (List.suffix_refl _)) fun x S _ => (late_must _ S).then fun _ U _ => late_ok _ (List.suffix_refl _))
    (fun hn _ => cut_badw hn _)
theorem late_levelG (ops : List (List UInt8 × Int)) (h : LP E b p) (d : Nat) : ∀ (k : Nat) (x : Ex) (S : List Tk), S.length < b → Late E S (levelG ops p d k x S)
  | 0, x, S, _ => late_ok _ (List.suffix_refl _)
  | k + 1, x, S, hs => late_ite (fun _ => late_ok _ (List.suffix_refl _)) (fun _ => ((h d S.tail (suf_lt (suf_tail S) hs)).of (suf_tail S)).then fun y T ht => late_levelG ops h d k _ T (suf_lt ht hs))
theorem LP.level (ops : List (List UInt8 × Int)) (h : LP E b p) : LP E b (levelP ops p) := fun d S hs => (h d S hs).then fun x T ht => late_levelG ops h d _ _ T (suf_lt ht hs)
theorem cut_levelG (ops : List (List UInt8 × Int)) (h : CP E E' R n b p p') (hl : LP E' b p') (d : Nat) : ∀ (k k' : Nat) (x : Ex) (L : List Tk), L.length ≤ k → (L ++ R).length ≤ k' → L.length < n → (L ++ R).length < b →
    CutR E E' R L (levelG ops p d k x L) (levelG ops p' d k' x (L ++ R))
  | 0, k', x, L, g1, g2, h1, h2 => by
    have : L = [] := List.length_eq_zero_iff.1 (by omega)
    subst this
    exact cut_end (by exact rfl) (late_levelG ops hl d k' x R h2)
  | k + 1, 0, x, L, g1, g2, h1, h2 => by
    have : L ++ R = [] := List.length_eq_zero_iff.1 (by omega)
    obtain ⟨rfl, rfl⟩ := List.append_eq_nil_iff.1 this
    refine cut_end ?_ (late_levelG ops hl d 0 x [] h2)
    rw [levelG, if_pos (op_nil ops)]
    exact rfl
  | k + 1, k' + 1, x, L, g1, g2, h1, h2 =>
    cut_ite (fun hn => by rw [op_app ops hn]) (fun e => by subst e; rw [if_pos (op_nil ops)]; exact rfl) (fun e => by subst e; exact late_levelG ops hl d (k' + 1) x R h2)
      (fun _ _ => cut_ok' _ (List.suffix_refl _)) (fun hn _ => by
        have ht := tail_lt hn
        rw [tail_app hn, op_app ops hn]
        refine CutR.of (CutR.then (h d L.tail (by omega) (app_lt (suf_tail L) h2)) (fun y C hC => ?_) fun y S hS => late_levelG ops hl d k' _ S (suf_lt' hS h2)) (suf_tail L)
        have hk := hC.length_le
        exact cut_levelG ops h hl d k k' _ C (by omega) (by rw [List.length_append] at g2 ⊢; omega) (by omega) (by rw [List.length_append] at h2 ⊢; omega))
theorem CP.level (ops : List (List UInt8 × Int)) (h : CP E E' R n b p p') (hl : LP E' b p') : CP E E' R n b (levelP ops p) (levelP ops p') := fun d L h1 h2 =>
  (h d L h1 h2).then (fun x C hC => cut_levelG ops h hl d _ _ x C (Nat.le_refl _) (Nat.le_refl _) (suf_lt hC h1) (app_lt hC h2)) fun x S hS => late_levelG ops hl d _ _ S (suf_lt' hS h2)
theorem LP.count (h : LP E b e) : LP E b (countP E e) := fun d S hs => late_ite (fun _ => late_ok _ (suf_tail S)) (fun _ => (h d S hs).then fun x T ht => late_ok _ (List.suffix_refl _))
theorem CP.count (h : CP E E' R n b e e') (hl : LP E' b e') (hn0 : 0 < n) : CP E E' R n b (countP E e) (countP E' e') := fun d L h1 h2 =>
  cut_ite (isW_iff _) (fun k => by
      subst k
      exact ((h d [] h1 h2).then (f := fun x L => .ok (Ex.one 22 x) L) (f' := fun x L => .ok (Ex.one 22 x) L) (fun x C _ => cut_ok' _ (List.suffix_refl _)) fun x S _ => late_ok _ (List.suffix_refl _)).end)
    (fun k => by subst k; exact hl.count d R h2)
    (fun hn _ => by rw [tail_app hn]; exact cut_ok' _ (suf_tail L)) (fun hn _ => (h d L h1 h2).then (fun x C _ => cut_ok' _ (List.suffix_refl _)) fun x S _ => late_ok _ (List.suffix_refl _))
theorem LP.keyed (h : LP E b e) : LP E (b + 1) (keyedP E e) := fun d S hs =>
  have ht : S.tail.length < b + 1 := suf_lt (suf_tail S) hs
  late_ite (fun _ => late_ok _ (suf_tail S)) (fun _ => late_ite (fun _ => late_ok _ (suf_tail S)) (fun _ => late_ite (fun _ => late_ok _ (suf_tail S)) (fun _ => late_ite (fun _ => (h.count.inside d S.tail ht).of (suf_tail S))
    (fun _ => late_ite (fun _ => late_bad _ (List.suffix_refl _)) (fun _ => ((h.inside d S.tail ht).of (suf_tail S)).then fun x T _ => late_ok _ (List.suffix_refl _))))))
theorem CP.keyed (h : CP E E' R n b e e') (hl : LP E' b e') : CP E E' R (n + 1) (b + 1) (keyedP E e) (keyedP E' e') := fun d L h1 h2 => by
  by_cases hn : L = []
  · subst hn
    exact cut_end (by unfold keyedP; rw [if_neg (by decide), if_neg (by decide), if_neg (by decide), if_neg (by decide), if_pos (op_nil opsK)]; exact ⟨rfl, rfl⟩) (hl.keyed d R h2)
  · have h1' := suf_lt (suf_tail L) h1
    have h2' := app_lt (suf_tail L) h2
    unfold keyedP
    rw [tail_app hn, op_app opsK hn]
    refine cut_ite (isW_iff _) (fun k => absurd k hn) (fun k => absurd k hn) (fun _ _ => cut_ok' _ (suf_tail L)) fun _ _ => ?_
    refine cut_ite (isW_iff _) (fun k => absurd k hn) (fun k => absurd k hn) (fun _ _ => cut_ok' _ (suf_tail L)) fun _ _ => ?_
    refine cut_ite (isW_iff _) (fun k => absurd k hn) (fun k => absurd k hn) (fun _ _ => cut_ok' _ (suf_tail L)) fun _ _ => ?_
    have hn0 : 0 < n := by have := tail_lt hn; omega
    refine cut_ite (isW_iff _) (fun k => absurd k hn) (fun k => absurd k hn) (fun _ _ => ((h.count hl hn0).inside hl.count d L.tail h1' h2').of (suf_tail L)) fun _ _ => ?_
    exact cut_ite (fun _ => Iff.rfl) (fun k => absurd k hn) (fun k => absurd k hn) (fun _ _ => cut_badw hn _) fun _ _ =>
      ((h.inside hl d L.tail h1' h2').of (suf_tail L)).then (fun x C _ => cut_ok' _ (List.suffix_refl _)) fun x S _ => late_ok _ (List.suffix_refl _)
theorem late_named (d : Nat) (S : List Tk) : Late E S (namedP E d S) := (late_name S).then fun x T _ => late_ite (fun _ => ((late_name T.tail).of (suf_tail T)).then fun y U _ => late_ok _ (List.suffix_refl _)) (fun _ => late_ok _ (List.suffix_refl _))
theorem cut_named (d : Nat) (L : List Tk) : CutR E E' R L (namedP E d L) (namedP E' d (L ++ R)) :=
  (cut_name L).then (fun x C _ => cut_ite (isW_iff _) (fun k => by subst k; exact rfl) (fun k => by
      subst k
      exact late_ite (fun _ => ((late_name R.tail).of (suf_tail R)).then fun y U _ => late_ok _ (List.suffix_refl _)) (fun _ => late_ok _ (List.suffix_refl _)))
    (fun hn _ => by
      rw [tail_app hn]
      exact ((cut_name C.tail).of (suf_tail C)).then (fun y D _ => cut_ok' _ (List.suffix_refl _)) fun y S _ => late_ok _ (List.suffix_refl _))
    (fun _ _ => cut_ok' _ (List.suffix_refl _))) fun x T _ => late_ite (fun _ => ((late_name T.tail).of (suf_tail T)).then fun y U _ => late_ok _ (List.suffix_refl _)) (fun _ => late_ok _ (List.suffix_refl _))
theorem LP.plain (h : LP E b e) : LP E (b + 1) (plainP E e) := fun d S hs =>
  late_ite (fun _ => late_ok _ (suf_tail S)) (fun _ => late_ite (fun _ => late_ok _ (suf_tail S)) (fun _ => late_ite (fun _ => late_named d S) (fun _ => late_ite (fun _ => h.keyed d S hs) (fun _ => h.inside d S hs))))
theorem CP.plain (h : CP E E' R n b e e') (hl : LP E' b e') : CP E E' R (n + 1) (b + 1) (plainP E e) (plainP E' e') := fun d L h1 h2 => by
  by_cases hn : L = []
  · subst hn
    exact cut_end (by unfold plainP; rw [if_neg (by decide), if_neg (by decide), if_neg (by decide), if_neg (by decide)]; exact ⟨rfl, rfl⟩) (hl.plain d R h2)
  · unfold plainP
    rw [kind_app hn, tail_app hn, head_app (E := E) hn]
    refine cut_ite (fun _ => Iff.rfl) (fun k => absurd k hn) (fun k => absurd k hn) (fun _ _ => cut_ok' _ (suf_tail L)) fun _ _ => ?_
    refine cut_ite (fun _ => Iff.rfl) (fun k => absurd k hn) (fun k => absurd k hn) (fun _ _ => cut_ok' _ (suf_tail L)) fun _ _ => ?_
    refine cut_ite (fun _ => Iff.rfl) (fun k => absurd k hn) (fun k => absurd k hn) (fun _ _ => cut_named d L) fun _ _ => ?_
    exact cut_ite (fun _ => Iff.rfl) (fun k => absurd k hn) (fun k => absurd k hn) (fun _ _ => h.keyed hl d L h1 h2) fun _ _ => h.inside hl d L h1 h2
theorem LP.minus (hm : LP E b m) (he : LP E b e) : LP E (b + 1) (minusP E m e) := fun d S hs =>
  late_ite (fun hw => (late_deep hm d S (ne_of_isW hw) hs).then fun x T _ => late_ok _ (List.suffix_refl _)) (fun _ => he.plain d S hs)
theorem CP.minus (hm : CP E E' R n b m m') (lm : LP E' b m') (he : CP E E' R n b e e') (le : LP E' b e') : CP E E' R (n + 1) (b + 1) (minusP E m e) (minusP E' m' e') := fun d L h1 h2 =>
  cut_ite (isW_iff _) (fun k => by subst k; exact (he.plain le d [] h1 h2).end) (fun k => by subst k; exact lm.minus le d R h2)
    (fun hn _ => (cut_deep hm d L hn h1 h2).then (fun x C _ => cut_ok' _ (List.suffix_refl _)) fun x S _ => late_ok _ (List.suffix_refl _)) fun hn _ => he.plain le d L h1 h2
theorem LP.sum (h : LP E b m) : LP E b (sumP m) := LP.level _ (LP.level _ h)
theorem CP.sum (h : CP E E' R n b m m') (hl : LP E' b m') : CP E E' R n b (sumP m) (sumP m') := CP.level _ (CP.level _ h hl) (LP.level _ hl)
/-- Behind a sum. -/
def testQ (E : Nat) (m : PR) (d : Nat) (x : Ex) (L : List Tk) : Res Ex :=
  if isW [73, 83] L then
    if isW [78, 79, 84] L.tail then (mustL E [78, 85, 76, 76] L.tail.tail).then fun _ L => .ok (.one 20 x) L
    else (mustL E [78, 85, 76, 76] L.tail).then fun _ L => .ok (.one 19 x) L
  else if opOf opsT L = 0 then .ok x L
  else (sumP m d L.tail).then fun y L' => .ok (.two (opOf opsT L) x y) L'
theorem late_not (x : Ex) (S : List Tk) : Late E S (if isW [78, 79, 84] S then (mustL E [78, 85, 76, 76] S.tail).then fun _ L => .ok (Ex.one 20 x) L else (mustL E [78, 85, 76, 76] S).then fun _ L => .ok (.one 19 x) L) :=
  late_ite (fun _ => ((late_must _ S.tail).of (suf_tail S)).then fun _ T _ => late_ok _ (List.suffix_refl _)) (fun _ => (late_must _ S).then fun _ T _ => late_ok _ (List.suffix_refl _))
theorem LP.testQ (h : LP E b m) (d : Nat) (x : Ex) (S : List Tk) (hs : S.length < b) : Late E S (testQ E m d x S) :=
  late_ite (fun _ => (late_not x S.tail).of (suf_tail S)) (fun _ => late_ite (fun _ => late_ok _ (List.suffix_refl _)) (fun _ => ((h.sum d S.tail (suf_lt (suf_tail S) hs)).of (suf_tail S)).then fun y T _ => late_ok _ (List.suffix_refl _)))
theorem CP.testQ (h : CP E E' R n b m m') (hl : LP E' b m') (d : Nat) (x : Ex) (L : List Tk) (h1 : L.length < n) (h2 : (L ++ R).length < b) : CutR E E' R L (testQ E m d x L) (testQ E' m' d x (L ++ R)) := by
  by_cases hn : L = []
  · subst hn
    exact cut_end (by unfold Go.Proofs.YtefenbonjepjgaaGreatDoor.testQ; rw [if_neg (by decide), if_pos (op_nil opsT)]; exact rfl) (hl.testQ d x R h2)
  · unfold Go.Proofs.YtefenbonjepjgaaGreatDoor.testQ
    rw [tail_app hn, op_app opsT hn]
    refine cut_ite (isW_iff _) (fun k => absurd k hn) (fun k => absurd k hn) (fun _ _ => CutR.of (cut_ite (isW_iff _) (fun k => by rw [k]; exact ⟨rfl, rfl⟩) (fun k => by rw [k]; exact late_not x R) (fun ht _ => ?_) fun _ _ => ?_) (suf_tail L)) fun _ _ => ?_
    · rw [tail_app ht]
      exact ((cut_must _ L.tail.tail).of (suf_tail _)).then (fun _ C _ => cut_ok' _ (List.suffix_refl _)) fun _ S _ => late_ok _ (List.suffix_refl _)
    · exact (cut_must _ L.tail).then (fun _ C _ => cut_ok' _ (List.suffix_refl _)) fun _ S _ => late_ok _ (List.suffix_refl _)
    · exact cut_ite (fun _ => Iff.rfl) (fun k => absurd k hn) (fun k => absurd k hn) (fun _ _ => cut_ok' _ (List.suffix_refl _)) fun _ _ =>
        ((h.sum hl d L.tail (suf_lt (suf_tail L) h1) (app_lt (suf_tail L) h2)).of (suf_tail L)).then (fun x C _ => cut_ok' _ (List.suffix_refl _)) fun x S _ => late_ok _ (List.suffix_refl _)
theorem LP.test (h : LP E b m) : LP E b (testP E m) := fun d S hs => (h.sum d S hs).then fun x T hT => h.testQ d x T (suf_lt hT hs)
theorem CP.test (h : CP E E' R n b m m') (hl : LP E' b m') : CP E E' R n b (testP E m) (testP E' m') := fun d L h1 h2 =>
  (h.sum hl d L h1 h2).then (fun x C hC => h.testQ hl d x C (suf_lt hC h1) (app_lt hC h2)) fun x S hS => hl.testQ d x S (suf_lt' hS h2)
theorem LP.deny (hp : LP E b p) (hm : LP E (b + 1) m) : LP E (b + 1) (denyP E p m) := fun d S hs =>
  late_ite (fun hw => (late_deep hp d S (ne_of_isW hw) hs).then fun x T _ => late_ok _ (List.suffix_refl _)) (fun _ => hm.test d S hs)
theorem CP.deny (hp : CP E E' R n b p p') (lp : LP E' b p') (hm : CP E E' R (n + 1) (b + 1) m m') (lm : LP E' (b + 1) m') : CP E E' R (n + 1) (b + 1) (denyP E p m) (denyP E' p' m') := fun d L h1 h2 =>
  cut_ite (isW_iff _) (fun k => by subst k; exact (hm.test lm d [] h1 h2).end) (fun k => by subst k; exact lp.deny lm d R h2)
    (fun hn _ => (cut_deep hp d L hn h1 h2).then (fun x C _ => cut_ok' _ (List.suffix_refl _)) fun x S _ => late_ok _ (List.suffix_refl _)) fun hn _ => hm.test lm d L h1 h2
theorem LP.expr (h : LP E b p) : LP E b (exprP p) := LP.level _ (LP.level _ h)
theorem CP.expr (h : CP E E' R n b p p') (hl : LP E' b p') : CP E E' R n b (exprP p) (exprP p') := CP.level _ (CP.level _ h hl) (LP.level _ hl)
end
theorem lp_lay (E : Nat) : ∀ n, LP E n (lay E n).1 ∧ LP E n (lay E n).2.1 ∧ LP E n (lay E n).2.2
  | 0 => ⟨fun d S h => absurd h (Nat.not_lt_zero _), fun d S h => absurd h (Nat.not_lt_zero _), fun d S h => absurd h (Nat.not_lt_zero _)⟩
  | n + 1 => by
    obtain ⟨h1, h2, h3⟩ := lp_lay E n
    exact ⟨h1.minus h3, h2.deny (h1.minus h3), (h2.deny (h1.minus h3)).expr⟩
theorem cp_lay (E E' : Nat) (R : List Tk) : ∀ n b, CP E E' R n b (lay E n).1 (lay E' b).1 ∧ CP E E' R n b (lay E n).2.1 (lay E' b).2.1 ∧ CP E E' R n b (lay E n).2.2 (lay E' b).2.2
  | 0, _ => ⟨fun d L h => absurd h (Nat.not_lt_zero _), fun d L h => absurd h (Nat.not_lt_zero _), fun d L h => absurd h (Nat.not_lt_zero _)⟩
  | n + 1, 0 => ⟨fun d L _ h => absurd h (Nat.not_lt_zero _), fun d L _ h => absurd h (Nat.not_lt_zero _), fun d L _ h => absurd h (Nat.not_lt_zero _)⟩
  | n + 1, b + 1 => by
    obtain ⟨h1, h2, h3⟩ := cp_lay E E' R n b
    obtain ⟨l1, l2, l3⟩ := lp_lay E' b
    have m := h1.minus l1 h3 l3
    have lm := l1.minus l3
    have q := h2.deny l2 m lm
    exact ⟨m, q, q.expr (l2.deny lm)⟩

section
variable {E E' n b : Nat} {R : List Tk}
theorem late_exprA (S : List Tk) (h : S.length < n) : Late E S (exprA E n S) := (lp_lay E n).2.2 0 S h
theorem cut_exprA (L : List Tk) (h1 : L.length < n) (h2 : (L ++ R).length < b) : CutR E E' R L (exprA E n L) (exprA E' b (L ++ R)) := (cp_lay E E' R n b).2.2 0 L h1 h2
/-- Behind a name, or none. -/
def naQ (E : Nat) (v : List UInt8) (L : List Tk) : Res (List UInt8 × List UInt8) := if isW [58] L then (nameP E L.tail).then fun l L' => .ok (v, l) L' else .ok (v, []) L
theorem na_eq (L : List Tk) : naP E L = naQ E (passNameP E L).1 (passNameP E L).2 := rfl
theorem late_naQ (v : List UInt8) (S : List Tk) : Late E S (naQ E v S) := late_ite (fun _ => ((late_name S.tail).of (suf_tail S)).then fun y T _ => late_ok _ (List.suffix_refl _)) (fun _ => late_ok _ (List.suffix_refl _))
theorem cut_naQ (v : List UInt8) (L : List Tk) : CutR E E' R L (naQ E v L) (naQ E' v (L ++ R)) :=
  cut_ite (isW_iff _) (fun k => by subst k; exact rfl) (fun k => by subst k; exact late_naQ v R) (fun hn _ => by
      rw [tail_app hn]
      exact ((cut_name L.tail).of (suf_tail L)).then (fun y D _ => cut_ok' _ (List.suffix_refl _)) fun y S _ => late_ok _ (List.suffix_refl _))
    (fun _ _ => cut_ok' _ (List.suffix_refl _))
theorem pass_suf (S : List Tk) : (passNameP E S).2 <:+ S := by unfold passNameP; split; exact suf_tail S; exact List.suffix_refl _
theorem late_na (S : List Tk) : Late E S (naP E S) := (late_naQ _ _).of (pass_suf S)
theorem cut_na (L : List Tk) : CutR E E' R L (naP E L) (naP E' (L ++ R)) := by
  by_cases hn : L = []
  · subst hn
    exact cut_end (by exact rfl) (late_na R)
  · rw [na_eq, na_eq]
    have : passNameP E' (L ++ R) = ((passNameP E L).1, (passNameP E L).2 ++ R) := by
      unfold passNameP
      rw [kind_app hn, head_app (E := E) hn, tail_app hn]
      split <;> rfl
    rw [this]
    exact (cut_naQ _ _).of (pass_suf L)
theorem late_node (S : List Tk) : Late E S (nodeP E S) := (late_must _ S).then fun _ T _ => (late_na T).then fun x U _ => (late_must _ U).then fun _ V _ => late_ok _ (List.suffix_refl _)
theorem cut_node (L : List Tk) : CutR E E' R L (nodeP E L) (nodeP E' (L ++ R)) :=
  (cut_must _ L).then (fun _ C _ => (cut_na C).then (fun x D _ => (cut_must _ D).then (fun _ F _ => cut_ok' _ (List.suffix_refl _)) fun _ V _ => late_ok _ (List.suffix_refl _))
    fun x U _ => (late_must _ U).then fun _ V _ => late_ok _ (List.suffix_refl _)) fun _ T _ => (late_na T).then fun x U _ => (late_must _ U).then fun _ V _ => late_ok _ (List.suffix_refl _)
/-- How long a way may be. -/
def starQ (E : Nat) (x : List UInt8 × List UInt8) (L : List Tk) : Res Ed :=
  if isW [83, 72, 79, 82, 84, 69, 83, 84] L then (numP E 1 8 L.tail).then fun h L => .ok ⟨x.1, x.2, false, 2, 0, h⟩ L
  else (numP E 0 8 L).then fun lo L => (mustL E [46, 46] L).then fun _ L => (numP E lo 8 L).then fun hi L => .ok ⟨x.1, x.2, false, 1, lo, hi⟩ L
def bodyQ (E : Nat) (x : List UInt8 × List UInt8) (L : List Tk) : Res Ed := if !isW [42] L then .ok ⟨x.1, x.2, false, 0, 0, 0⟩ L else starQ E x L.tail
theorem late_span (x : List UInt8 × List UInt8) (S : List Tk) : Late E S ((numP E 0 8 S).then fun lo L => (mustL E [46, 46] L).then fun _ L => (numP E lo 8 L).then fun hi L => .ok (Ed.mk x.1 x.2 false 1 lo hi) L) :=
  (late_num 0 8 S).then fun lo T _ => (late_must _ T).then fun _ U _ => (late_num lo 8 U).then fun hi V _ => late_ok _ (List.suffix_refl _)
theorem late_starQ (x : List UInt8 × List UInt8) (S : List Tk) : Late E S (starQ E x S) :=
  late_ite (fun _ => ((late_num 1 8 S.tail).of (suf_tail S)).then fun y T _ => late_ok _ (List.suffix_refl _)) (fun _ => late_span x S)
theorem cut_starQ (x : List UInt8 × List UInt8) (L : List Tk) : CutR E E' R L (starQ E x L) (starQ E' x (L ++ R)) :=
  have hs : CutR E E' R L ((numP E 0 8 L).then fun lo L => (mustL E [46, 46] L).then fun _ L => (numP E lo 8 L).then fun hi L => .ok (Ed.mk x.1 x.2 false 1 lo hi) L)
      ((numP E' 0 8 (L ++ R)).then fun lo L => (mustL E' [46, 46] L).then fun _ L => (numP E' lo 8 L).then fun hi L => .ok (Ed.mk x.1 x.2 false 1 lo hi) L) :=
    (cut_num 0 8 L).then (fun lo C _ => (cut_must _ C).then (fun _ D _ => (cut_num lo 8 D).then (fun hi F _ => cut_ok' _ (List.suffix_refl _)) fun hi V _ => late_ok _ (List.suffix_refl _)) fun _ U _ => (late_num lo 8 U).then fun hi V _ => late_ok _ (List.suffix_refl _))
      fun lo T _ => (late_must _ T).then fun _ U _ => (late_num lo 8 U).then fun hi V _ => late_ok _ (List.suffix_refl _)
  cut_ite (isW_iff _) (fun k => by rw [if_neg (by rw [k]; decide)]; exact hs.of (List.suffix_refl _) |> fun h => by rw [k] at h ⊢; exact h.end) (fun k => by rw [k]; exact late_starQ x R)
    (fun hn _ => by
      rw [tail_app hn]
      exact ((cut_num 1 8 L.tail).of (suf_tail L)).then (fun y D _ => cut_ok' _ (List.suffix_refl _)) fun y S _ => late_ok _ (List.suffix_refl _)) (fun _ _ => hs)
theorem late_bodyQ (x : List UInt8 × List UInt8) (S : List Tk) : Late E S (bodyQ E x S) := late_ite (fun _ => late_ok _ (List.suffix_refl _)) (fun _ => (late_starQ x S.tail).of (suf_tail S))
theorem cut_bodyQ (x : List UInt8 × List UInt8) (L : List Tk) : CutR E E' R L (bodyQ E x L) (bodyQ E' x (L ++ R)) :=
  cut_ite (fun hn => by rw [isW_app _ hn]) (fun k => by subst k; exact rfl) (fun k => by subst k; exact late_bodyQ x R) (fun _ _ => cut_ok' _ (List.suffix_refl _))
    (fun hn _ => by rw [tail_app hn]; exact (cut_starQ x L.tail).of (suf_tail L))
theorem late_body (S : List Tk) : Late E S (bodyP E S) := (late_na S).then fun x T _ => late_bodyQ x T
theorem cut_body (L : List Tk) : CutR E E' R L (bodyP E L) (bodyP E' (L ++ R)) := (cut_na L).then (fun x C _ => cut_bodyQ x C) fun x S _ => late_bodyQ x S
/-- An edge behind its first sign. -/
def edgeE (E : Nat) (g : Bool) (x : Ed) (L3 : List Tk) : Res Ed := if g then .ok { x with back := true } L3 else (mustL E [62] L3).then fun _ L4 => .ok { x with back := false } L4
def edgeQ (E : Nat) (g : Bool) (L : List Tk) : Res Ed :=
  (mustsL E [[45], [91]] L).then fun _ L1 => (bodyP E L1).then fun x L2 => (mustsL E [[93], [45]] L2).then fun _ L3 => edgeE E g x L3
theorem late_edgeE (g : Bool) (x : Ed) (S : List Tk) : Late E S (edgeE E g x S) := late_ite (fun _ => late_ok _ (List.suffix_refl _)) (fun _ => (late_must _ S).then fun _ T _ => late_ok _ (List.suffix_refl _))
theorem cut_edgeE (g : Bool) (x : Ed) (L : List Tk) : CutR E E' R L (edgeE E g x L) (edgeE E' g x (L ++ R)) := by
  unfold edgeE
  split
  · exact cut_ok' _ (List.suffix_refl _)
  · exact (cut_must _ L).then (fun _ C _ => cut_ok' _ (List.suffix_refl _)) fun _ S _ => late_ok _ (List.suffix_refl _)
theorem late_edgeQ (g : Bool) (S : List Tk) : Late E S (edgeQ E g S) :=
  (late_musts _ S).then fun _ T _ => (late_body T).then fun x U _ => (late_musts _ U).then fun _ V _ => late_edgeE g x V
theorem cut_edgeQ (g : Bool) (L : List Tk) : CutR E E' R L (edgeQ E g L) (edgeQ E' g (L ++ R)) :=
  (cut_musts _ L).then (fun _ C _ => (cut_body C).then (fun x D _ => (cut_musts _ D).then (fun _ F _ => cut_edgeE g x F) fun _ V _ => late_edgeE g x V)
    fun x U _ => (late_musts _ U).then fun _ V _ => late_edgeE g x V) fun _ T _ => (late_body T).then fun x U _ => (late_musts _ U).then fun _ V _ => late_edgeE g x V
theorem edge_eq (L : List Tk) : edgeP E L = edgeQ E (isW [60] L) (if isW [60] L then L.tail else L) := rfl
theorem lt_suf (L : List Tk) (s : List UInt8) : (if isW s L then L.tail else L) <:+ L := by split; exact suf_tail L; exact List.suffix_refl _
theorem late_edge (S : List Tk) : Late E S (edgeP E S) := (late_edgeQ _ _).of (lt_suf S _)
theorem cut_edge (L : List Tk) : CutR E E' R L (edgeP E L) (edgeP E' (L ++ R)) := by
  by_cases hn : L = []
  · subst hn
    exact cut_end (by exact ⟨rfl, rfl⟩) (late_edge R)
  · rw [edge_eq, edge_eq, isW_app _ hn, tail_app hn]
    have : (if isW [60] L = true then L.tail ++ R else L ++ R) = (if isW [60] L then L.tail else L) ++ R := by split <;> rfl
    rw [this]
    exact (cut_edgeQ _ _).of (lt_suf L _)
theorem must_okC {s : List UInt8} {L C : List Tk} (h : mustL E s L = .ok () C) : L ≠ [] ∧ C = L.tail := by
  unfold mustL at h
  split at h
  · cases h
    exact ⟨ne_of_isW ‹_›, rfl⟩
  · cases h
theorem edgeQ_less {g : Bool} {L C : List Tk} {x : Ed} (h : edgeQ E g L = .ok x C) : L ≠ [] ∧ C <:+ L.tail := by
  obtain ⟨y, M, h1, h2⟩ := then_ok.1 h
  obtain ⟨z, M', h3, h4⟩ := then_ok.1 h1
  obtain ⟨hn, rfl⟩ := must_okC h3
  have k1 := late_musts (E := E) [[91]] L.tail
  rw [h4] at k1
  have k2 : Late E M _ := (late_body (E := E) M).then fun x U _ => (late_musts [[93], [45]] U).then fun _ V _ => late_edgeE g x V
  rw [h2] at k2
  exact ⟨hn, List.IsSuffix.trans k2 k1⟩
theorem edge_lessC {L C : List Tk} {x : Ed} (h : edgeP E L = .ok x C) : C.length < L.length := by
  rw [edge_eq] at h
  obtain ⟨hn, hs⟩ := edgeQ_less h
  have h1 := hs.length_le
  have h2 := tail_lt hn
  have h3 := (lt_suf L [60]).length_le
  omega
theorem late_pattG : ∀ (k : Nat) (p : Pt) (S : List Tk), Late E S (pattG E k p S)
  | 0, p, S => late_ok _ (List.suffix_refl _)
  | k + 1, p, S => late_ite (fun _ => (late_edge S).then fun x T _ => (late_node T).then fun y U _ => late_pattG k _ U) (fun _ => late_ok _ (List.suffix_refl _))
theorem cut_pattG : ∀ (k k' : Nat) (p : Pt) (L : List Tk), L.length ≤ k → (L ++ R).length ≤ k' → CutR E E' R L (pattG E k p L) (pattG E' k' p (L ++ R))
  | 0, k', p, L, g1, g2 => by
    have : L = [] := List.length_eq_zero_iff.1 (by omega)
    subst this
    exact cut_end (by exact rfl) (late_pattG k' p R)
  | k + 1, 0, p, L, g1, g2 => by
    have : L ++ R = [] := List.length_eq_zero_iff.1 (by omega)
    obtain ⟨rfl, rfl⟩ := List.append_eq_nil_iff.1 this
    exact cut_end (by exact rfl) (late_pattG 0 p [])
  | k + 1, k' + 1, p, L, g1, g2 =>
    cut_ite (fun hn => by rw [isW_app _ hn, isW_app _ hn]) (fun e => by subst e; exact rfl) (fun e => by subst e; exact late_pattG (k' + 1) p R)
      (fun hn hc => (cut_edge L).then' (fun x C hx _ => (cut_node C).then (fun y D hD => by
          have h1 := edge_lessC hx
          have h2 := hD.length_le
          exact cut_pattG k k' _ D (by omega) (by rw [List.length_append] at g2 ⊢; omega)) fun y S _ => late_pattG k' _ S)
        fun x S _ => (late_node S).then fun y T _ => late_pattG k' _ T)
      (fun _ _ => cut_ok' _ (List.suffix_refl _))
theorem late_patt (S : List Tk) : Late E S (pattP E S) := (late_node S).then fun x T _ => late_pattG _ _ T
theorem cut_patt (L : List Tk) : CutR E E' R L (pattP E L) (pattP E' (L ++ R)) := (cut_node L).then (fun x C _ => cut_pattG _ _ _ C (Nat.le_refl _) (Nat.le_refl _)) fun x S _ => late_pattG _ _ S
theorem late_listG {α : Type} {b : Nat} {p : List Tk → Res α} (h : ∀ S, S.length < b → Late E S (p S)) : ∀ (k : Nat) (l : List α) (S : List Tk), S.length < b → Late E S (listG p k l S)
  | 0, l, S, _ => late_ok _ (List.suffix_refl _)
  | k + 1, l, S, hs => late_ite (fun _ => ((h S.tail (suf_lt (suf_tail S) hs)).of (suf_tail S)).then fun x T hT => late_listG h k _ T (suf_lt hT hs)) (fun _ => late_ok _ (List.suffix_refl _))
theorem cut_listG {α : Type} {n b : Nat} {p p' : List Tk → Res α} (hp : ∀ L, L.length < n → (L ++ R).length < b → CutR E E' R L (p L) (p' (L ++ R))) (h : ∀ S, S.length < b → Late E' S (p' S)) : ∀ (k k' : Nat) (l : List α) (L : List Tk), L.length ≤ k → (L ++ R).length ≤ k' → L.length < n → (L ++ R).length < b →
    CutR E E' R L (listG p k l L) (listG p' k' l (L ++ R))
  | 0, k', l, L, g1, g2, h1, h2 => by
    have : L = [] := List.length_eq_zero_iff.1 (by omega)
    subst this
    exact cut_end (by exact rfl) (late_listG h k' l R h2)
  | k + 1, 0, l, L, g1, g2, h1, h2 => by
    have : L ++ R = [] := List.length_eq_zero_iff.1 (by omega)
    obtain ⟨rfl, rfl⟩ := List.append_eq_nil_iff.1 this
    exact cut_end (by exact rfl) (late_listG h 0 l [] h2)
  | k + 1, k' + 1, l, L, g1, g2, h1, h2 =>
    cut_ite (isW_iff _) (fun e => by subst e; exact rfl) (fun e => by subst e; exact late_listG h (k' + 1) l R h2)
      (fun hn hc => by
        have ht := tail_lt hn
        rw [tail_app hn]
        refine CutR.of (CutR.then (hp L.tail (by omega) (app_lt (suf_tail L) h2)) (fun x C hC => ?_) fun x S hS => late_listG h k' _ S (suf_lt' hS h2)) (suf_tail L)
        have hk := hC.length_le
        exact cut_listG hp h k k' _ C (by omega) (by rw [List.length_append] at g2 ⊢; omega) (by omega) (by rw [List.length_append] at h2 ⊢; omega))
      (fun _ _ => cut_ok' _ (List.suffix_refl _))
theorem late_list {α : Type} {b : Nat} {p : List Tk → Res α} (h : ∀ S, S.length < b → Late E S (p S)) (S : List Tk) (hs : S.length < b) : Late E S (listP p S) := (h S hs).then fun x T hT => late_listG h _ _ T (suf_lt hT hs)
theorem cut_list {α : Type} {n b : Nat} {p p' : List Tk → Res α} (hp : ∀ L, L.length < n → (L ++ R).length < b → CutR E E' R L (p L) (p' (L ++ R))) (h : ∀ S, S.length < b → Late E' S (p' S)) (L : List Tk) (h1 : L.length < n) (h2 : (L ++ R).length < b) :
    CutR E E' R L (listP p L) (listP p' (L ++ R)) := (hp L h1 h2).then (fun x C hC => cut_listG hp h _ _ _ C (Nat.le_refl _) (Nat.le_refl _) (suf_lt hC h1) (app_lt hC h2)) fun x S hS => late_listG h _ _ S (suf_lt' hS h2)
def itemQ (E : Nat) (x : Ex) (L : List Tk) : Res Itm := if isW [65, 83] L then (nameP E L.tail).then fun n L => .ok ⟨x, n⟩ L else .ok ⟨x, []⟩ L
theorem late_itemQ (x : Ex) (S : List Tk) : Late E S (itemQ E x S) := late_ite (fun _ => ((late_name S.tail).of (suf_tail S)).then fun y T _ => late_ok _ (List.suffix_refl _)) (fun _ => late_ok _ (List.suffix_refl _))
theorem cut_itemQ (x : Ex) (L : List Tk) : CutR E E' R L (itemQ E x L) (itemQ E' x (L ++ R)) :=
  cut_ite (isW_iff _) (fun k => by subst k; exact rfl) (fun k => by subst k; exact late_itemQ x R) (fun hn _ => by
      rw [tail_app hn]
      exact ((cut_name L.tail).of (suf_tail L)).then (fun y D _ => cut_ok' _ (List.suffix_refl _)) fun y S _ => late_ok _ (List.suffix_refl _))
    (fun _ _ => cut_ok' _ (List.suffix_refl _))
theorem late_item (S : List Tk) (hs : S.length < n) : Late E S (itemP E n S) := (late_exprA S hs).then fun x T _ => late_itemQ x T
theorem cut_item (L : List Tk) (h1 : L.length < n) (h2 : (L ++ R).length < b) : CutR E E' R L (itemP E n L) (itemP E' b (L ++ R)) := (cut_exprA L h1 h2).then (fun x C _ => cut_itemQ x C) fun x S _ => late_itemQ x S
def keyQ (n : List UInt8) (L : List Tk) : Res Ky := if isW [65, 83, 67] L then .ok ⟨n, false⟩ L.tail else if isW [68, 69, 83, 67] L then .ok ⟨n, true⟩ L.tail else .ok ⟨n, false⟩ L
theorem late_keyQ (n : List UInt8) (S : List Tk) : Late E S (keyQ n S) := late_ite (fun _ => late_ok _ (suf_tail S)) (fun _ => late_ite (fun _ => late_ok _ (suf_tail S)) (fun _ => late_ok _ (List.suffix_refl _)))
theorem cut_keyQ (n : List UInt8) (L : List Tk) : CutR E E' R L (keyQ n L) (keyQ n (L ++ R)) := by
  by_cases hn : L = []
  · subst hn
    exact cut_end (by exact rfl) (late_keyQ n R)
  · unfold keyQ
    rw [tail_app hn]
    refine cut_ite (isW_iff _) (fun k => absurd k hn) (fun k => absurd k hn) (fun _ _ => cut_ok' _ (suf_tail L)) fun _ _ => ?_
    exact cut_ite (isW_iff _) (fun k => absurd k hn) (fun k => absurd k hn) (fun _ _ => cut_ok' _ (suf_tail L)) fun _ _ => cut_ok' _ (List.suffix_refl _)
theorem late_key (S : List Tk) : Late E S (keyP E S) := (late_name S).then fun x T _ => late_keyQ x T
theorem cut_key (L : List Tk) : CutR E E' R L (keyP E L) (keyP E' (L ++ R)) := (cut_name L).then (fun x C _ => cut_keyQ x C) fun x S _ => late_keyQ x S
theorem late_where (S : List Tk) (hs : S.length < n) : Late E S (whereP E n S) := late_ite (fun _ => ((late_exprA S.tail (suf_lt (suf_tail S) hs)).of (suf_tail S)).then fun y T _ => late_ok _ (List.suffix_refl _)) (fun _ => late_ok _ (List.suffix_refl _))
theorem cut_where (L : List Tk) (h1 : L.length < n) (h2 : (L ++ R).length < b) : CutR E E' R L (whereP E n L) (whereP E' b (L ++ R)) :=
  cut_ite (isW_iff _) (fun k => by subst k; exact rfl) (fun k => by subst k; exact late_where R h2) (fun hn _ => by
      rw [tail_app hn]
      exact ((cut_exprA L.tail (suf_lt (suf_tail L) h1) (app_lt (suf_tail L) h2)).of (suf_tail L)).then (fun y D _ => cut_ok' _ (List.suffix_refl _)) fun y S _ => late_ok _ (List.suffix_refl _))
    (fun _ _ => cut_ok' _ (List.suffix_refl _))
theorem late_keys (S : List Tk) : Late E S (keysP E S) := late_ite (fun _ => ((late_must _ S.tail).of (suf_tail S)).then fun y T _ => late_list (b := T.length + 1) (fun U _ => late_key U) T (Nat.lt_succ_self _)) (fun _ => late_ok _ (List.suffix_refl _))
theorem cut_keys (L : List Tk) : CutR E E' R L (keysP E L) (keysP E' (L ++ R)) :=
  cut_ite (isW_iff _) (fun k => by subst k; exact rfl) (fun k => by subst k; exact late_keys R) (fun hn _ => by
      rw [tail_app hn]
      exact ((cut_must _ L.tail).of (suf_tail L)).then (fun y D _ => cut_list (n := D.length + 1) (b := (D ++ R).length + 1) (fun M _ _ => cut_key M) (fun U _ => late_key U) D (Nat.lt_succ_self _) (Nat.lt_succ_self _)) fun y S _ => late_list (b := S.length + 1) (fun U _ => late_key U) S (Nat.lt_succ_self _))
    (fun _ _ => cut_ok' _ (List.suffix_refl _))
theorem late_lim (S : List Tk) : Late E S (limP E S) := late_ite (fun _ => (late_num _ _ S.tail).of (suf_tail S)) (fun _ => late_ok _ (List.suffix_refl _))
theorem cut_lim (L : List Tk) : CutR E E' R L (limP E L) (limP E' (L ++ R)) :=
  cut_ite (isW_iff _) (fun k => by subst k; exact rfl) (fun k => by subst k; exact late_lim R) (fun hn _ => by
      rw [tail_app hn]
      exact (cut_num _ _ L.tail).of (suf_tail L))
    (fun _ _ => cut_ok' _ (List.suffix_refl _))
/-- A query behind RETURN. -/
def retQ (E N : Nat) (ps : List Pt) (wh : List Ex) (g : Bool) (L : List Tk) : Res Qy :=
  (listP (itemP E N) L).then fun is L' => (keysP E L').then fun ks L' => (limP E L').then fun n L' => .ok ⟨ps, wh, g, is, ks, n⟩ L'
theorem late_retQ (ps : List Pt) (wh : List Ex) (g : Bool) (S : List Tk) (hs : S.length < n) : Late E S (retQ E n ps wh g S) :=
  (late_list (fun U hU => late_item U hU) S hs).then fun is T _ => (late_keys T).then fun ks U _ => (late_lim U).then fun n V _ => late_ok _ (List.suffix_refl _)
theorem cut_retQ (ps : List Pt) (wh : List Ex) (g : Bool) (L : List Tk) (h1 : L.length < n) (h2 : (L ++ R).length < b) : CutR E E' R L (retQ E n ps wh g L) (retQ E' b ps wh g (L ++ R)) :=
  (cut_list (fun M m1 m2 => cut_item M m1 m2) (fun U hU => late_item U hU) L h1 h2).then (fun is C _ => (cut_keys C).then (fun ks D _ => (cut_lim D).then (fun n F _ => cut_ok' _ (List.suffix_refl _)) fun n V _ => late_ok _ (List.suffix_refl _))
    fun ks U _ => (late_lim U).then fun n V _ => late_ok _ (List.suffix_refl _)) fun is T _ => (late_keys T).then fun ks U _ => (late_lim U).then fun n V _ => late_ok _ (List.suffix_refl _)
def distQ (E N : Nat) (ps : List Pt) (wh : List Ex) (L : List Tk) : Res Qy := retQ E N ps wh (isW [68, 73, 83, 84, 73, 78, 67, 84] L) (if isW [68, 73, 83, 84, 73, 78, 67, 84] L then L.tail else L)
theorem late_distQ (ps : List Pt) (wh : List Ex) (S : List Tk) (hs : S.length < n) : Late E S (distQ E n ps wh S) := (late_retQ ps wh _ _ (suf_lt (lt_suf S _) hs)).of (lt_suf S _)
theorem cut_distQ (ps : List Pt) (wh : List Ex) (L : List Tk) (h1 : L.length < n) (h2 : (L ++ R).length < b) : CutR E E' R L (distQ E n ps wh L) (distQ E' b ps wh (L ++ R)) := by
  by_cases hn : L = []
  · subst hn
    exact cut_end (cut_retQ (E' := E') (R := R) ps wh false [] h1 h2).end (late_distQ ps wh R h2)
  · unfold distQ
    rw [isW_app _ hn, tail_app hn]
    have : (if isW [68, 73, 83, 84, 73, 78, 67, 84] L = true then L.tail ++ R else L ++ R) = (if isW [68, 73, 83, 84, 73, 78, 67, 84] L then L.tail else L) ++ R := by split <;> rfl
    rw [this]
    exact (cut_retQ ps wh _ _ (suf_lt (lt_suf L _) h1) (app_lt (lt_suf L _) h2)).of (lt_suf L _)
theorem query_eq (N : Nat) (L : List Tk) : queryP E N L = (mustL E [77, 65, 84, 67, 72] L).then fun _ L => (listP (pattP E) L).then fun ps L => (whereP E N L).then fun wh L => (mustL E [82, 69, 84, 85, 82, 78] L).then fun _ L => distQ E N ps wh L := rfl
theorem late_query (S : List Tk) (hs : S.length < n) : Late E S (queryP E n S) := by
  rw [query_eq]
  exact (late_must _ S).then fun _ T hT => (late_list (b := T.length + 1) (fun U _ => late_patt U) T (Nat.lt_succ_self _)).then fun ps U hU => (late_where U (suf_lt (hU.trans hT) hs)).then fun wh V hV => (late_must _ V).then fun _ X hX => late_distQ ps wh X (suf_lt (((hX.trans hV).trans hU).trans hT) hs)
theorem cut_query (L : List Tk) (h1 : L.length < n) (h2 : (L ++ R).length < b) : CutR E E' R L (queryP E n L) (queryP E' b (L ++ R)) := by
  rw [query_eq, query_eq]
  exact (cut_must _ L).then (fun _ C hC => (cut_list (n := C.length + 1) (b := (C ++ R).length + 1) (fun M _ _ => cut_patt M) (fun U _ => late_patt U) C (Nat.lt_succ_self _) (Nat.lt_succ_self _)).then (fun ps D hD =>
      (cut_where D (suf_lt (hD.trans hC) h1) (app_lt (hD.trans hC) h2)).then (fun wh F hF => (cut_must _ F).then (fun _ G hG => cut_distQ ps wh G (suf_lt (((hG.trans hF).trans hD).trans hC) h1) (app_lt (((hG.trans hF).trans hD).trans hC) h2))
          fun _ X hX => late_distQ ps wh X (suf_lt' hX h2))
        fun wh V hV => (late_must _ V).then fun _ X hX => late_distQ ps wh X (suf_lt' (hX.trans hV) h2))
      fun ps U hU => (late_where U (suf_lt' hU h2)).then fun wh V hV => (late_must _ V).then fun _ X hX => late_distQ ps wh X (suf_lt' ((hX.trans hV).trans hU) h2))
    fun _ T hT => (late_list (b := T.length + 1) (fun U _ => late_patt U) T (Nat.lt_succ_self _)).then fun ps U hU => (late_where U (suf_lt' (hU.trans hT) h2)).then fun wh V hV => (late_must _ V).then fun _ X hX => late_distQ ps wh X (suf_lt' (((hX.trans hV).trans hU).trans hT) h2)
end
end Go.Proofs.YtefenbonjepjgaaGreatDoor
