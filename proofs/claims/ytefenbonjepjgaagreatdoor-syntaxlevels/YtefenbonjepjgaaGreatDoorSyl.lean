/-
  What is read is a beginning of the words: no reader gives back more than it was handed.
-/
import Derived.Test.YtefenbonjepjgaaGreatDoorSyn
namespace Go.Proofs.YtefenbonjepjgaaGreatDoor
set_option linter.unusedSimpArgs false
set_option linter.unusedVariables false

theorem then_ok {α β : Type} {r : Res α} {f : α → List Tk → Res β} {x : β} {L : List Tk} : r.then f = .ok x L ↔ ∃ y M, r = .ok y M ∧ f y M = .ok x L := by
  cases r with
  | ok y M =>
    constructor
    · intro h; exact ⟨y, M, rfl, h⟩
    · rintro ⟨y', M', e, h⟩; cases e; exact h
  | bad a y =>
    constructor
    · intro h; cases h
    · rintro ⟨_, _, e, _⟩; cases e
/-- Gives back no more than it was handed. -/
def ShR {α : Type} (L : List Tk) (r : Res α) : Prop := ∀ x L', r = .ok x L' → L'.length ≤ L.length
def Sh (p : PR) : Prop := ∀ d L, ShR L (p d L)
theorem ShR.then {α β : Type} {L : List Tk} {r : Res α} {f : α → List Tk → Res β} (h : ShR L r) (hf : ∀ x M, M.length ≤ L.length → ShR M (f x M)) : ShR L (r.then f) := by
  intro x L' e
  obtain ⟨y, M, e1, e2⟩ := then_ok.1 e
  have h1 := h _ _ e1
  exact Nat.le_trans (hf y M h1 _ _ e2) h1
theorem shr_ok {α : Type} (x : α) {L L0 : List Tk} (h : L.length ≤ L0.length) : ShR L0 (.ok x L) := by
  intro y M e; cases e; exact h
theorem shr_bad {α : Type} (a : Nat) (y : Int) {L : List Tk} : ShR (α := α) L (.bad a y) := by
  intro x M e; cases e
theorem ShR.of {α : Type} {L M : List Tk} {r : Res α} (h : ShR M r) (hl : M.length ≤ L.length) : ShR L r := fun x L' e => Nat.le_trans (h x L' e) hl
theorem tail_len (L : List Tk) : L.tail.length ≤ L.length := by simp
theorem shr_ite {α : Type} {c : Prop} [Decidable c] {L : List Tk} {a b : Res α} (ha : ShR L a) (hb : ShR L b) : ShR L (if c then a else b) := by
  split <;> assumption
theorem shr_must (E : Nat) (s : List UInt8) (L : List Tk) : ShR L (mustL E s L) := shr_ite (shr_ok _ (tail_len L)) (shr_bad _ _)
theorem shr_musts (E : Nat) : ∀ (l : List (List UInt8)) (L : List Tk), ShR L (mustsL E l L)
  | [], L => shr_ok _ (Nat.le_refl _)
  | s :: r, L => (shr_must E s L).then fun _ M _ => shr_musts E r M
theorem shr_name (E : Nat) (L : List Tk) : ShR L (nameP E L) := shr_ite (shr_ok _ (tail_len L)) (shr_bad _ _)
theorem shr_num (E : Nat) (lo hi : Int) (L : List Tk) : ShR L (numP E lo hi L) := shr_ite (shr_ok _ (tail_len L)) (shr_bad _ _)
theorem Sh.deep {E : Nat} {p : PR} (h : Sh p) : Sh (deepP E p) := fun d L => shr_ite (shr_bad _ _) ((h (d + 1) L.tail).of (tail_len L))
theorem Sh.inside {E : Nat} {p : PR} (h : Sh p) : Sh (insideP E p) := fun d L =>
  shr_ite ((h.deep d L).then fun x M _ => (shr_must E _ M).then fun _ M' _ => shr_ok _ (Nat.le_refl _)) (shr_bad _ _)
theorem sh_levelG (ops : List (List UInt8 × Int)) {p : PR} (h : Sh p) (d : Nat) : ∀ (n : Nat) (x : Ex) (L : List Tk), ShR L (levelG ops p d n x L)
  | 0, x, L => shr_ok _ (Nat.le_refl _)
  | n + 1, x, L => shr_ite (shr_ok _ (Nat.le_refl _)) (((h d L.tail).of (tail_len L)).then fun y M _ => sh_levelG ops h d n _ M)
theorem Sh.level (ops : List (List UInt8 × Int)) {p : PR} (h : Sh p) : Sh (levelP ops p) := fun d L => (h d L).then fun x M _ => sh_levelG ops h d _ _ M
theorem Sh.count {E : Nat} {e : PR} (h : Sh e) : Sh (countP E e) := fun d L => shr_ite (shr_ok _ (tail_len L)) ((h d L).then fun x M _ => shr_ok _ (Nat.le_refl _))
theorem Sh.keyed {E : Nat} {e : PR} (h : Sh e) : Sh (keyedP E e) := fun d L =>
  shr_ite (shr_ok _ (tail_len L)) (shr_ite (shr_ok _ (tail_len L)) (shr_ite (shr_ok _ (tail_len L)) (shr_ite ((h.count.inside d L.tail).of (tail_len L))
    (shr_ite (shr_bad _ _) (((h.inside d L.tail).of (tail_len L)).then fun x M _ => shr_ok _ (Nat.le_refl _))))))
theorem sh_named (E : Nat) : Sh (namedP E) := fun d L => (shr_name E L).then fun n M _ => shr_ite (((shr_name E M.tail).of (tail_len M)).then fun p M' _ => shr_ok _ (Nat.le_refl _)) (shr_ok _ (Nat.le_refl _))
theorem Sh.plain {E : Nat} {e : PR} (h : Sh e) : Sh (plainP E e) := fun d L =>
  shr_ite (shr_ok _ (tail_len L)) (shr_ite (shr_ok _ (tail_len L)) (shr_ite (sh_named E d L) (shr_ite (h.keyed d L) (h.inside d L))))
theorem Sh.minus {E : Nat} {m e : PR} (hm : Sh m) (he : Sh e) : Sh (minusP E m e) := fun d L => shr_ite ((hm.deep d L).then fun x M _ => shr_ok _ (Nat.le_refl _)) (he.plain d L)
theorem Sh.prod {m : PR} (h : Sh m) : Sh (prodP m) := h.level _
theorem Sh.sum {m : PR} (h : Sh m) : Sh (sumP m) := h.prod.level _
theorem Sh.test {E : Nat} {m : PR} (h : Sh m) : Sh (testP E m) := fun d L => (h.sum d L).then fun x M _ =>
  shr_ite (shr_ite (((shr_must E _ M.tail.tail).of (Nat.le_trans (tail_len _) (tail_len _))).then fun _ M' _ => shr_ok _ (Nat.le_refl _)) (((shr_must E _ M.tail).of (tail_len M)).then fun _ M' _ => shr_ok _ (Nat.le_refl _)))
    (shr_ite (shr_ok _ (Nat.le_refl _)) (((h.sum d M.tail).of (tail_len M)).then fun y M' _ => shr_ok _ (Nat.le_refl _)))
theorem Sh.deny {E : Nat} {n m : PR} (hn : Sh n) (hm : Sh m) : Sh (denyP E n m) := fun d L => shr_ite ((hn.deep d L).then fun x M _ => shr_ok _ (Nat.le_refl _)) (hm.test d L)
theorem Sh.both {n : PR} (h : Sh n) : Sh (bothP n) := h.level _
theorem Sh.expr {n : PR} (h : Sh n) : Sh (exprP n) := h.both.level _
theorem sh_lay (E : Nat) : ∀ n, Sh (lay E n).1 ∧ Sh (lay E n).2.1 ∧ Sh (lay E n).2.2
  | 0 => ⟨fun d L => shr_bad _ _, fun d L => shr_bad _ _, fun d L => shr_bad _ _⟩
  | n + 1 => by
    obtain ⟨h1, h2, h3⟩ := sh_lay E n
    exact ⟨h1.minus h3, h2.deny (h1.minus h3), (h2.deny (h1.minus h3)).expr⟩
theorem shr_na (E : Nat) (L : List Tk) : ShR L (naP E L) := by
  have h : (passNameP E L).2.length ≤ L.length := by unfold passNameP; split; exact tail_len L; exact Nat.le_refl _
  exact shr_ite (((shr_name E _).of (Nat.le_trans (tail_len _) h)).then fun l M _ => shr_ok _ (Nat.le_refl _)) (shr_ok _ h)
theorem shr_node (E : Nat) (L : List Tk) : ShR L (nodeP E L) := (shr_must E _ L).then fun _ M _ => (shr_na E M).then fun x M' _ => (shr_must E _ M').then fun _ M'' _ => shr_ok _ (Nat.le_refl _)
theorem shr_body (E : Nat) (L : List Tk) : ShR L (bodyP E L) := (shr_na E L).then fun x M _ =>
  shr_ite (shr_ok _ (Nat.le_refl _)) (shr_ite (((shr_num E _ _ M.tail.tail).of (Nat.le_trans (tail_len _) (tail_len _))).then fun h M' _ => shr_ok _ (Nat.le_refl _))
    (((shr_num E _ _ M.tail).of (tail_len M)).then fun lo M' _ => (shr_must E _ M').then fun _ M2 _ => (shr_num E _ _ M2).then fun hi M3 _ => shr_ok _ (Nat.le_refl _)))
theorem shr_edge (E : Nat) (L : List Tk) : ShR L (edgeP E L) := by
  have h : (if isW [60] L then L.tail else L).length ≤ L.length := by split; exact tail_len L; exact Nat.le_refl _
  exact ((shr_musts E _ _).of h).then fun _ M _ => (shr_body E M).then fun x M2 _ => (shr_musts E _ M2).then fun _ M3 _ => shr_ite (shr_ok _ (Nat.le_refl _)) ((shr_must E _ M3).then fun _ M4 _ => shr_ok _ (Nat.le_refl _))
theorem shr_pattG (E : Nat) : ∀ (n : Nat) (p : Pt) (L : List Tk), ShR L (pattG E n p L)
  | 0, p, L => shr_ok _ (Nat.le_refl _)
  | n + 1, p, L => shr_ite ((shr_edge E L).then fun x M _ => (shr_node E M).then fun y M' _ => shr_pattG E n _ M') (shr_ok _ (Nat.le_refl _))
theorem shr_patt (E : Nat) (L : List Tk) : ShR L (pattP E L) := (shr_node E L).then fun x M _ => shr_pattG E _ _ M
theorem shr_listG {α : Type} {p : List Tk → Res α} (h : ∀ L, ShR L (p L)) : ∀ (n : Nat) (l : List α) (L : List Tk), ShR L (listG p n l L)
  | 0, l, L => shr_ok _ (Nat.le_refl _)
  | n + 1, l, L => shr_ite (((h L.tail).of (tail_len L)).then fun x M _ => shr_listG h n _ M) (shr_ok _ (Nat.le_refl _))
theorem shr_list {α : Type} {p : List Tk → Res α} (h : ∀ L, ShR L (p L)) (L : List Tk) : ShR L (listP p L) := (h L).then fun x M _ => shr_listG h _ _ M
theorem shr_item (E N : Nat) (L : List Tk) : ShR L (itemP E N L) := ((sh_lay E N).2.2 0 L).then fun x M _ => shr_ite (((shr_name E M.tail).of (tail_len M)).then fun n M' _ => shr_ok _ (Nat.le_refl _)) (shr_ok _ (Nat.le_refl _))
theorem shr_key (E : Nat) (L : List Tk) : ShR L (keyP E L) := (shr_name E L).then fun n M _ => shr_ite (shr_ok _ (tail_len M)) (shr_ite (shr_ok _ (tail_len M)) (shr_ok _ (Nat.le_refl _)))
end Go.Proofs.YtefenbonjepjgaaGreatDoor
