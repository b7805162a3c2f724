/-
  Trees of words: what the grammar makes of a list of words, or at which word it gives up, and why.
  What is read is a beginning of the words: no reader gives back more than it was handed.
-/
import Derived.Test.YtkcnpbckmdgfnaaGreatDoorLxa
namespace Go.Proofs.YtkcnpbckmdgfnaaGreatDoor
set_option linter.unusedSimpArgs false
set_option linter.unusedVariables false

/-- An expression: of none, of one, of two others. -/
inductive Ex where
  | leaf (op : Int) (name prop : List UInt8) (k : Int) (b : Bool) (n : Int) (t : List UInt8)
  | one (op : Int) (a : Ex)
  | two (op : Int) (a b : Ex)
/-- What a reader of words comes to. -/
inductive Res (α : Type) where
  | ok (x : α) (L : List Tk)
  | bad (a : Nat) (y : Int)
def Res.then {α β : Type} (r : Res α) (f : α → List Tk → Res β) : Res β :=
  match r with
  | .ok x L => f x L
  | .bad a y => .bad a y
def litE (k : Int) (b : Bool) (n : Int) (t : List UInt8) : Ex := .leaf 1 [] [] k b n t

/-- The place of the next word. -/
def placeL (E : Nat) : List Tk → Nat
  | [] => E
  | t :: _ => t.at'
/-- Is the next word this key or sign? -/
def isW (s : List UInt8) : List Tk → Bool
  | [] => false
  | t :: _ => (decide (t.k = 2) || decide (t.k = 5)) && decide (t.t = s)
/-- The kind of the next word. -/
def kindL : List Tk → Int
  | [] => 0
  | t :: _ => t.k
def headL (E : Nat) : List Tk → Tk
  | [] => ⟨0, [], 0, E⟩
  | t :: _ => t
def mustL (E : Nat) (s : List UInt8) (L : List Tk) : Res Unit := if isW s L then .ok () L.tail else .bad (placeL E L) 81
def mustsL (E : Nat) : List (List UInt8) → List Tk → Res Unit
  | [], L => .ok () L
  | s :: r, L => (mustL E s L).then fun _ L => mustsL E r L
def nameP (E : Nat) (L : List Tk) : Res (List UInt8) := if kindL L = 1 then .ok (headL E L).t L.tail else .bad (placeL E L) 81
def numP (E : Nat) (lo hi : Int) (L : List Tk) : Res Int := if kindL L = 3 ∧ lo ≤ (headL E L).n ∧ (headL E L).n ≤ hi then .ok (headL E L).n L.tail else .bad (placeL E L) 81
/-- Which of these words is the next one, and what it makes; 0: none. -/
def opOf (ops : List (List UInt8 × Int)) (L : List Tk) : Int := match ops.find? fun o => isW o.1 L with
  | some o => o.2
  | none => 0
/-- A reader of a part, so deep. -/
abbrev PR := Nat → List Tk → Res Ex
def deepP (E : Nat) (p : PR) : PR := fun d L => if d = 50 then .bad (placeL E L) 82 else p (d + 1) L.tail
def insideP (E : Nat) (p : PR) : PR := fun d L => if isW [40] L then (deepP E p d L).then fun x L => (mustL E [41] L).then fun _ L => .ok x L else .bad (placeL E L) 81
def levelG (ops : List (List UInt8 × Int)) (p : PR) (d : Nat) : Nat → Ex → List Tk → Res Ex
  | 0, x, L => .ok x L
  | n + 1, x, L => if opOf ops L = 0 then .ok x L else (p d L.tail).then fun y L' => levelG ops p d n (.two (opOf ops L) x y) L'
def levelP (ops : List (List UInt8 × Int)) (p : PR) : PR := fun d L => (p d L).then fun x L => levelG ops p d L.length x L
def countP (E : Nat) (e : PR) : PR := fun d L => if isW [42] L then .ok (.leaf 26 [] [] 0 false 0 []) L.tail else (e d L).then fun x L => .ok (.one 22 x) L
def opsK : List (List UInt8 × Int) := [([76, 69, 78, 71, 84, 72], 21), ([83, 85, 77], 23), ([77, 73, 78], 24), ([77, 65, 88], 25)]
def opsT : List (List UInt8 × Int) := [([61], 6), ([60, 62], 7), ([60], 8), ([60, 61], 9), ([62], 10), ([62, 61], 11)]
def opsS : List (List UInt8 × Int) := [([43], 12), ([45], 13)]
def opsM : List (List UInt8 × Int) := [([42], 14), ([47], 15), ([37], 16)]
def opsO : List (List UInt8 × Int) := [([79, 82], 4)]
def opsA : List (List UInt8 × Int) := [([65, 78, 68], 5)]
def keyedP (E : Nat) (e : PR) : PR := fun d L =>
  if isW [84, 82, 85, 69] L then .ok (litE 1 true 0 []) L.tail
  else if isW [70, 65, 76, 83, 69] L then .ok (litE 1 false 0 []) L.tail
  else if isW [78, 85, 76, 76] L then .ok (litE 0 false 0 []) L.tail
  else if isW [67, 79, 85, 78, 84] L then insideP E (countP E e) d L.tail
  else if opOf opsK L = 0 then .bad (placeL E L) 81
  else (insideP E e d L.tail).then fun x L' => .ok (.one (opOf opsK L) x) L'
def namedP (E : Nat) : PR := fun d L => (nameP E L).then fun n L =>
  if isW [46] L then (nameP E L.tail).then fun p L => .ok (.leaf 3 n p 0 false 0 []) L else .ok (.leaf 2 n [] 0 false 0 []) L
def plainP (E : Nat) (e : PR) : PR := fun d L =>
  if kindL L = 3 then .ok (litE 2 false (headL E L).n []) L.tail
  else if kindL L = 4 then .ok (litE 3 false 0 (headL E L).t) L.tail
  else if kindL L = 1 then namedP E d L
  else if kindL L = 2 then keyedP E e d L
  else insideP E e d L
def minusP (E : Nat) (m e : PR) : PR := fun d L => if isW [45] L then (deepP E m d L).then fun x L => .ok (.one 18 x) L else plainP E e d L
def prodP (m : PR) : PR := levelP opsM m
def sumP (m : PR) : PR := levelP opsS (prodP m)
def testP (E : Nat) (m : PR) : PR := fun d L => (sumP m d L).then fun x L =>
  if isW [73, 83] L then
    if isW [78, 79, 84] L.tail then (mustL E [78, 85, 76, 76] L.tail.tail).then fun _ L => .ok (.one 20 x) L
    else (mustL E [78, 85, 76, 76] L.tail).then fun _ L => .ok (.one 19 x) L
  else if opOf opsT L = 0 then .ok x L
  else (sumP m d L.tail).then fun y L' => .ok (.two (opOf opsT L) x y) L'
def denyP (E : Nat) (n m : PR) : PR := fun d L => if isW [78, 79, 84] L then (deepP E n d L).then fun x L => .ok (.one 17 x) L else testP E m d L
def bothP (n : PR) : PR := levelP opsA n
def exprP (n : PR) : PR := levelP opsO (bothP n)
/-- The readers of 'minus', 'deny' and 'expr', for fewer words than so many. -/
def lay (E : Nat) : Nat → PR × PR × PR
  | 0 => (fun _ _ => .bad 0 0, fun _ _ => .bad 0 0, fun _ _ => .bad 0 0)
  | n + 1 =>
    (minusP E (lay E n).1 (lay E n).2.2,
     denyP E (lay E n).2.1 (minusP E (lay E n).1 (lay E n).2.2),
     exprP (denyP E (lay E n).2.1 (minusP E (lay E n).1 (lay E n).2.2)))
/-- 'expr' of a list of words. -/
def exprL (E : Nat) (L : List Tk) : Res Ex := (lay E (L.length + 1)).2.2 0 L

/-- Patterns. -/
structure Nd where
  v : List UInt8
  l : List UInt8
structure Ed where
  v : List UInt8
  l : List UInt8
  back : Bool
  mode : Int
  lo : Int
  hi : Int
structure Pt where
  nodes : List Nd
  edges : List Ed
structure Itm where
  x : Ex
  n : List UInt8
structure Ky where
  n : List UInt8
  desc : Bool
structure Qy where
  pats : List Pt
  where' : List Ex
  dist : Bool
  items : List Itm
  keys : List Ky
  lim : Int
def passNameP (E : Nat) (L : List Tk) : List UInt8 × List Tk := if kindL L = 1 then ((headL E L).t, L.tail) else ([], L)
def naP (E : Nat) (L : List Tk) : Res (List UInt8 × List UInt8) :=
  if isW [58] (passNameP E L).2 then (nameP E (passNameP E L).2.tail).then fun l L' => .ok ((passNameP E L).1, l) L' else .ok ((passNameP E L).1, []) (passNameP E L).2
def nodeP (E : Nat) (L : List Tk) : Res Nd := (mustL E [40] L).then fun _ L => (naP E L).then fun x L => (mustL E [41] L).then fun _ L => .ok ⟨x.1, x.2⟩ L
def bodyP (E : Nat) (L : List Tk) : Res Ed := (naP E L).then fun x L =>
  if !isW [42] L then .ok ⟨x.1, x.2, false, 0, 0, 0⟩ L
  else if isW [83, 72, 79, 82, 84, 69, 83, 84] L.tail then (numP E 1 8 L.tail.tail).then fun h L => .ok ⟨x.1, x.2, false, 2, 0, h⟩ L
  else (numP E 0 8 L.tail).then fun lo L => (mustL E [46, 46] L).then fun _ L => (numP E lo 8 L).then fun hi L => .ok ⟨x.1, x.2, false, 1, lo, hi⟩ L
def edgeP (E : Nat) (L : List Tk) : Res Ed :=
  (mustsL E [[45], [91]] (if isW [60] L then L.tail else L)).then fun _ L1 => (bodyP E L1).then fun x L2 => (mustsL E [[93], [45]] L2).then fun _ L3 =>
    if isW [60] L then .ok { x with back := true } L3 else (mustL E [62] L3).then fun _ L4 => .ok { x with back := false } L4
def pattG (E : Nat) : Nat → Pt → List Tk → Res Pt
  | 0, p, L => .ok p L
  | n + 1, p, L => if isW [45] L || isW [60] L then (edgeP E L).then fun x L => (nodeP E L).then fun y L => pattG E n ⟨p.nodes ++ [y], p.edges ++ [x]⟩ L else .ok p L
def pattP (E : Nat) (L : List Tk) : Res Pt := (nodeP E L).then fun x L => pattG E L.length ⟨[x], []⟩ L
def listG {α : Type} (p : List Tk → Res α) : Nat → List α → List Tk → Res (List α)
  | 0, l, L => .ok l L
  | n + 1, l, L => if isW [44] L then (p L.tail).then fun x L => listG p n (l ++ [x]) L else .ok l L
def listP {α : Type} (p : List Tk → Res α) (L : List Tk) : Res (List α) := (p L).then fun x L => listG p L.length [x] L
def exprA (E : Nat) (N : Nat) (L : List Tk) : Res Ex := (lay E N).2.2 0 L
def itemP (E N : Nat) (L : List Tk) : Res Itm := (exprA E N L).then fun x L => if isW [65, 83] L then (nameP E L.tail).then fun n L => .ok ⟨x, n⟩ L else .ok ⟨x, []⟩ L
def keyP (E : Nat) (L : List Tk) : Res Ky := (nameP E L).then fun n L =>
  if isW [65, 83, 67] L then .ok ⟨n, false⟩ L.tail else if isW [68, 69, 83, 67] L then .ok ⟨n, true⟩ L.tail else .ok ⟨n, false⟩ L
def whereP (E N : Nat) (L : List Tk) : Res (List Ex) := if isW [87, 72, 69, 82, 69] L then (exprA E N L.tail).then fun x L => .ok [x] L else .ok [] L
def keysP (E : Nat) (L : List Tk) : Res (List Ky) := if isW [79, 82, 68, 69, 82] L then (mustL E [66, 89] L.tail).then fun _ L => listP (keyP E) L else .ok [] L
def limP (E : Nat) (L : List Tk) : Res Int := if isW [76, 73, 77, 73, 84] L then numP E 0 1099511627776 L.tail else .ok (-1) L
def queryP (E N : Nat) (L : List Tk) : Res Qy :=
  (mustL E [77, 65, 84, 67, 72] L).then fun _ L => (listP (pattP E) L).then fun ps L => (whereP E N L).then fun wh L =>
  (mustL E [82, 69, 84, 85, 82, 78] L).then fun _ L => (listP (itemP E N) (if isW [68, 73, 83, 84, 73, 78, 67, 84] L then L.tail else L)).then fun is L' =>
  (keysP E L').then fun ks L' => (limP E L').then fun n L' => .ok ⟨ps, wh, isW [68, 73, 83, 84, 73, 78, 67, 84] L, is, ks, n⟩ L'
def endP {α : Type} (E : Nat) (r : Res α) : Res α := r.then fun x L => if L = [] then .ok x [] else .bad (placeL E L) 81
/-- What a text is read as: a query, an expression; or where it is none, and why. -/
def parseL (l : List UInt8) : Res Qy := if (lexL l).2.2 = 0 then endP l.length (queryP l.length ((lexL l).1.length + 1) (lexL l).1) else .bad (lexL l).2.1 (lexL l).2.2
def parseEL (l : List UInt8) : Res Ex := if (lexL l).2.2 = 0 then endP l.length (exprL l.length (lexL l).1) else .bad (lexL l).2.1 (lexL l).2.2
end Go.Proofs.YtkcnpbckmdgfnaaGreatDoor
namespace Go.Proofs.YtkcnpbckmdgfnaaGreatDoor
set_option linter.unusedSimpArgs false
set_option linter.unusedVariables false

theorem then_ok {α β : Type} {r : Res α} {f : α → List Tk → Res β} {x : β} {L : List Tk} : r.then f = .ok x L ↔ ∃ y M, r = .ok y M ∧ f y M = .ok x L := by
  cases r with
  | ok y M =>
    constructor
    · intro h; exact ⟨y, M, rfl, h⟩
    · rintro ⟨y', M', e, h⟩; cases e; exact h
  | bad a y =>
    constructor
    · intro h; cases h
    · rintro ⟨_, _, e, _⟩; cases e
/-- Gives back no more than it was handed. -/
def ShR {α : Type} (L : List Tk) (r : Res α) : Prop := ∀ x L', r = .ok x L' → L'.length ≤ L.length
def Sh (p : PR) : Prop := ∀ d L, ShR L (p d L)
theorem ShR.then {α β : Type} {L : List Tk} {r : Res α} {f : α → List Tk → Res β} (h : ShR L r) (hf : ∀ x M, M.length ≤ L.length → ShR M (f x M)) : ShR L (r.then f) := by
  intro x L' e
  obtain ⟨y, M, e1, e2⟩ := then_ok.1 e
  have h1 := h _ _ e1
  exact Nat.le_trans (hf y M h1 _ _ e2) h1
theorem shr_ok {α : Type} (x : α) {L L0 : List Tk} (h : L.length ≤ L0.length) : ShR L0 (.ok x L) := by
  intro y M e; cases e; exact h
theorem shr_bad {α : Type} (a : Nat) (y : Int) {L : List Tk} : ShR (α := α) L (.bad a y) := by
  intro x M e; cases e
theorem ShR.of {α : Type} {L M : List Tk} {r : Res α} (h : ShR M r) (hl : M.length ≤ L.length) : ShR L r := fun x L' e => Nat.le_trans (h x L' e) hl
theorem tail_len (L : List Tk) : L.tail.length ≤ L.length := by simp
theorem shr_ite {α : Type} {c : Prop} [Decidable c] {L : List Tk} {a b : Res α} (ha : ShR L a) (hb : ShR L b) : ShR L (if c then a else b) := by
  split <;> assumption
theorem shr_must (E : Nat) (s : List UInt8) (L : List Tk) : ShR L (mustL E s L) := shr_ite (shr_ok _ (tail_len L)) (shr_bad _ _)
theorem shr_musts (E : Nat) : ∀ (l : List (List UInt8)) (L : List Tk), ShR L (mustsL E l L)
  | [], L => shr_ok _ (Nat.le_refl _)
  | s :: r, L => (shr_must E s L).then fun _ M _ => shr_musts E r M
theorem shr_name (E : Nat) (L : List Tk) : ShR L (nameP E L) := shr_ite (shr_ok _ (tail_len L)) (shr_bad _ _)
theorem shr_num (E : Nat) (lo hi : Int) (L : List Tk) : ShR L (numP E lo hi L) := shr_ite (shr_ok _ (tail_len L)) (shr_bad _ _)
theorem Sh.deep {E : Nat} {p : PR} (h : Sh p) : Sh (deepP E p) := fun d L => shr_ite (shr_bad _ _) ((h (d + 1) L.tail).of (tail_len L))
theorem Sh.inside {E : Nat} {p : PR} (h : Sh p) : Sh (insideP E p) := fun d L =>
  shr_ite ((h.deep d L).then fun x M _ => (shr_must E _ M).then fun _ M' _ => shr_ok _ (Nat.le_refl _)) (shr_bad _ _)
theorem sh_levelG (ops : List (List UInt8 × Int)) {p : PR} (h : Sh p) (d : Nat) : ∀ (n : Nat) (x : Ex) (L : List Tk), ShR L (levelG ops p d n x L)
  | 0, x, L => shr_ok _ (Nat.le_refl _)
  | n + 1, x, L => shr_ite (shr_ok _ (Nat.le_refl _)) (((h d L.tail).of (tail_len L)).then fun y M _ => sh_levelG ops h d n _ M)
theorem Sh.level (ops : List (List UInt8 × Int)) {p : PR} (h : Sh p) : Sh (levelP ops p) := fun d L => (h d L).then fun x M _ => sh_levelG ops h d _ _ M
theorem Sh.count {E : Nat} {e : PR} (h : Sh e) : Sh (countP E e) := fun d L => shr_ite (shr_ok _ (tail_len L)) ((h d L).then fun x M _ => shr_ok _ (Nat.le_refl _))
theorem Sh.keyed {E : Nat} {e : PR} (h : Sh e) : Sh (keyedP E e) := fun d L =>
  shr_ite (shr_ok _ (tail_len L)) (shr_ite (shr_ok _ (tail_len L)) (shr_ite (shr_ok _ (tail_len L)) (shr_ite ((h.count.inside d L.tail).of (tail_len L))
    (shr_ite (shr_bad _ _) (((h.inside d L.tail).of (tail_len L)).then fun x M _ => shr_ok _ (Nat.le_refl _))))))
theorem sh_named (E : Nat) : Sh (namedP E) := fun d L => (shr_name E L).then fun n M _ => shr_ite (((shr_name E M.tail).of (tail_len M)).then fun p M' _ => shr_ok _ (Nat.le_refl _)) (shr_ok _ (Nat.le_refl _))
theorem Sh.plain {E : Nat} {e : PR} (h : Sh e) : Sh (plainP E e) := fun d L =>
  shr_ite (shr_ok _ (tail_len L)) (shr_ite (shr_ok _ (tail_len L)) (shr_ite (sh_named E d L) (shr_ite (h.keyed d L) (h.inside d L))))
theorem Sh.minus {E : Nat} {m e : PR} (hm : Sh m) (he : Sh e) : Sh (minusP E m e) := fun d L => shr_ite ((hm.deep d L).then fun x M _ => shr_ok _ (Nat.le_refl _)) (he.plain d L)
theorem Sh.prod {m : PR} (h : Sh m) : Sh (prodP m) := h.level _
theorem Sh.sum {m : PR} (h : Sh m) : Sh (sumP m) := h.prod.level _
theorem Sh.test {E : Nat} {m : PR} (h : Sh m) : Sh (testP E m) := fun d L => (h.sum d L).then fun x M _ =>
  shr_ite (shr_ite (((shr_must E _ M.tail.tail).of (Nat.le_trans (tail_len _) (tail_len _))).then fun _ M' _ => shr_ok _ (Nat.le_refl _)) (((shr_must E _ M.tail).of (tail_len M)).then fun _ M' _ => shr_ok _ (Nat.le_refl _)))
    (shr_ite (shr_ok _ (Nat.le_refl _)) (((h.sum d M.tail).of (tail_len M)).then fun y M' _ => shr_ok _ (Nat.le_refl _)))
theorem Sh.deny {E : Nat} {n m : PR} (hn : Sh n) (hm : Sh m) : Sh (denyP E n m) := fun d L => shr_ite ((hn.deep d L).then fun x M _ => shr_ok _ (Nat.le_refl _)) (hm.test d L)
theorem Sh.both {n : PR} (h : Sh n) : Sh (bothP n) := h.level _
theorem Sh.expr {n : PR} (h : Sh n) : Sh (exprP n) := h.both.level _
theorem sh_lay (E : Nat) : ∀ n, Sh (lay E n).1 ∧ Sh (lay E n).2.1 ∧ Sh (lay E n).2.2
  | 0 => ⟨fun d L => shr_bad _ _, fun d L => shr_bad _ _, fun d L => shr_bad _ _⟩
  | n + 1 => by
    obtain ⟨h1, h2, h3⟩ := sh_lay E n
    exact ⟨h1.minus h3, h2.deny (h1.minus h3), (h2.deny (h1.minus h3)).expr⟩
theorem shr_na (E : Nat) (L : List Tk) : ShR L (naP E L) := by
  have h : (passNameP E L).2.length ≤ L.length := by unfold passNameP; split; exact tail_len L; exact Nat.le_refl _
  exact shr_ite (((shr_name E _).of (Nat.le_trans (tail_len _) h)).then fun l M _ => shr_ok _ (Nat.le_refl _)) (shr_ok _ h)
theorem shr_node (E : Nat) (L : List Tk) : ShR L (nodeP E L) := (shr_must E _ L).then fun _ M _ => (shr_na E M).then fun x M' _ => (shr_must E _ M').then fun _ M'' _ => shr_ok _ (Nat.le_refl _)
theorem shr_body (E : Nat) (L : List Tk) : ShR L (bodyP E L) := (shr_na E L).then fun x M _ =>
  shr_ite (shr_ok _ (Nat.le_refl _)) (shr_ite (((shr_num E _ _ M.tail.tail).of (Nat.le_trans (tail_len _) (tail_len _))).then fun h M' _ => shr_ok _ (Nat.le_refl _))
    (((shr_num E _ _ M.tail).of (tail_len M)).then fun lo M' _ => (shr_must E _ M').then fun _ M2 _ => (shr_num E _ _ M2).then fun hi M3 _ => shr_ok _ (Nat.le_refl _)))
theorem shr_edge (E : Nat) (L : List Tk) : ShR L (edgeP E L) := by
  have h : (if isW [60] L then L.tail else L).length ≤ L.length := by split; exact tail_len L; exact Nat.le_refl _
  exact ((shr_musts E _ _).of h).then fun _ M _ => (shr_body E M).then fun x M2 _ => (shr_musts E _ M2).then fun _ M3 _ => shr_ite (shr_ok _ (Nat.le_refl _)) ((shr_must E _ M3).then fun _ M4 _ => shr_ok _ (Nat.le_refl _))
theorem shr_pattG (E : Nat) : ∀ (n : Nat) (p : Pt) (L : List Tk), ShR L (pattG E n p L)
  | 0, p, L => shr_ok _ (Nat.le_refl _)
  | n + 1, p, L => shr_ite ((shr_edge E L).then fun x M _ => (shr_node E M).then fun y M' _ => shr_pattG E n _ M') (shr_ok _ (Nat.le_refl _))
theorem shr_patt (E : Nat) (L : List Tk) : ShR L (pattP E L) := (shr_node E L).then fun x M _ => shr_pattG E _ _ M
theorem shr_listG {α : Type} {p : List Tk → Res α} (h : ∀ L, ShR L (p L)) : ∀ (n : Nat) (l : List α) (L : List Tk), ShR L (listG p n l L)
  | 0, l, L => shr_ok _ (Nat.le_refl _)
  | n + 1, l, L => shr_ite (((h L.tail).of (tail_len L)).then fun x M _ => shr_listG h n _ M) (shr_ok _ (Nat.le_refl _))
theorem shr_list {α : Type} {p : List Tk → Res α} (h : ∀ L, ShR L (p L)) (L : List Tk) : ShR L (listP p L) := (h L).then fun x M _ => shr_listG h _ _ M
theorem shr_item (E N : Nat) (L : List Tk) : ShR L (itemP E N L) := ((sh_lay E N).2.2 0 L).then fun x M _ => shr_ite (((shr_name E M.tail).of (tail_len M)).then fun n M' _ => shr_ok _ (Nat.le_refl _)) (shr_ok _ (Nat.le_refl _))
theorem shr_key (E : Nat) (L : List Tk) : ShR L (keyP E L) := (shr_name E L).then fun n M _ => shr_ite (shr_ok _ (tail_len M)) (shr_ite (shr_ok _ (tail_len M)) (shr_ok _ (Nat.le_refl _)))
end Go.Proofs.YtkcnpbckmdgfnaaGreatDoor
