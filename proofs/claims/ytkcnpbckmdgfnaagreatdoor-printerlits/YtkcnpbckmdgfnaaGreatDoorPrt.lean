/-
  Trees as texts: what the text of an expression is, and which have one (pure).
-/
import Derived.Test.YtkcnpbckmdgfnaaGreatDoorLxa
import Derived.Test.YtkcnpbckmdgfnaaGreatDoorVrt
import Derived.Test.YtkcnpbckmdgfnaaGreatDoorNme
import Derived.Test.YtkcnpbckmdgfnaaGreatDoorSya
import Derived.Lib.ItoaNum
namespace Go.Proofs.YtkcnpbckmdgfnaaGreatDoor
set_option linter.unusedSimpArgs false
set_option linter.unusedVariables false

/-- How an Op stands in a text. -/
structure Fm where
  lvl : Int
  pl : List Int
  ah : List UInt8
  bt : List UInt8
  be : List UInt8
  dp : Bool
def formsL : List Fm := [⟨0, [], [], [], [], false⟩,
  ⟨8, [], [], [], [], false⟩,
  ⟨8, [], [], [], [], false⟩,
  ⟨8, [], [], [], [], false⟩,
  ⟨1, [1, 2], [], [32, 79, 82, 32], [], false⟩,
  ⟨2, [2, 3], [], [32, 65, 78, 68, 32], [], false⟩,
  ⟨4, [5, 5], [], [32, 61, 32], [], false⟩,
  ⟨4, [5, 5], [], [32, 60, 62, 32], [], false⟩,
  ⟨4, [5, 5], [], [32, 60, 32], [], false⟩,
  ⟨4, [5, 5], [], [32, 60, 61, 32], [], false⟩,
  ⟨4, [5, 5], [], [32, 62, 32], [], false⟩,
  ⟨4, [5, 5], [], [32, 62, 61, 32], [], false⟩,
  ⟨5, [5, 6], [], [32, 43, 32], [], false⟩,
  ⟨5, [5, 6], [], [32, 45, 32], [], false⟩,
  ⟨6, [6, 7], [], [32, 42, 32], [], false⟩,
  ⟨6, [6, 7], [], [32, 47, 32], [], false⟩,
  ⟨6, [6, 7], [], [32, 37, 32], [], false⟩,
  ⟨3, [3], [78, 79, 84, 32], [], [], true⟩,
  ⟨7, [7], [45], [], [], true⟩,
  ⟨4, [5], [], [], [32, 73, 83, 32, 78, 85, 76, 76], false⟩,
  ⟨4, [5], [], [], [32, 73, 83, 32, 78, 79, 84, 32, 78, 85, 76, 76], false⟩,
  ⟨8, [1], [76, 69, 78, 71, 84, 72, 40], [], [41], true⟩,
  ⟨8, [1], [67, 79, 85, 78, 84, 40], [], [41], true⟩,
  ⟨8, [1], [83, 85, 77, 40], [], [41], true⟩,
  ⟨8, [1], [77, 73, 78, 40], [], [41], true⟩,
  ⟨8, [1], [77, 65, 88, 40], [], [41], true⟩,
  ⟨8, [], [67, 79, 85, 78, 84, 40, 42, 41], [], [], true⟩]
def isOp (o : Int) : Bool := decide (1 ≤ o) && decide (o ≤ 26)
def fmOf (o : Int) : Fm := if isOp o then formsL.getD o.toNat ⟨0, [], [], [], [], false⟩ else ⟨0, [], [], [], [], false⟩
/-- An expression as it is handed in. -/
inductive Tr where
  | mk (op : Int) (nm pr : List UInt8) (k : Int) (b : Bool) (n : Int) (t : List UInt8) (ph : List Int) (ks : List Tr)
def Tr.ks : Tr → List Tr
  | .mk _ _ _ _ _ _ _ _ ks => ks
theorem Tr.ind {P : Tr → Prop} (h : ∀ op nm pr k b n t ph ks, (∀ y ∈ ks, P y) → P (.mk op nm pr k b n t ph ks)) : ∀ x, P x
  | .mk op nm pr k b n t ph ks => h op nm pr k b n t ph ks fun y hy => Tr.ind h y
termination_by x => SizeOf.sizeOf x
decreasing_by
  have := List.sizeOf_lt_of_mem hy
  simp
  omega
/-- Right of a value. -/
def rgV (k : Int) (b : Bool) (n : Int) (t : List UInt8) (ph : List Int) : Bool := V2.rgtB k b n (txt t) ph.length ph (Lib.validD t)
def nmB (s : List UInt8) : Bool := V4.nameB (txt s) && decide (keyL s = [])
def litB (k : Int) (b : Bool) (n : Int) (t : List UInt8) (ph : List Int) : Bool := rgV k b n t ph && decide (k ≤ 3) && decide (0 ≤ n)
def zerB (k : Int) (b : Bool) (n : Int) (t : List UInt8) (ph : List Int) : Bool := rgV k b n t ph && decide (k = 0)
def fldB (op : Int) (nm pr : List UInt8) (k : Int) (b : Bool) (n : Int) (t : List UInt8) (ph : List Int) : Bool :=
  if op = 1 then decide (nm = []) && decide (pr = []) && litB k b n t ph
  else if op = 2 then nmB nm && decide (pr = []) && zerB k b n t ph
  else if op = 3 then nmB nm && nmB pr && zerB k b n t ph
  else decide (nm = []) && decide (pr = []) && zerB k b n t ph
/-- A value's text. -/
def litT (k : Int) (b : Bool) (n : Int) (t : List UInt8) : List UInt8 :=
  if k = 0 then [78, 85, 76, 76] else if k = 1 then (if b then [84, 82, 85, 69] else [70, 65, 76, 83, 69]) else if k = 2 then Lib.decDigits n.toNat else quoL t
def ownT (op : Int) (nm pr : List UInt8) (k : Int) (b : Bool) (n : Int) (t : List UInt8) : List UInt8 :=
  if op = 1 then litT k b n t else if op = 2 then nm else if op = 3 then nm ++ ([46] ++ pr) else []
/-- Brackets, where the place asks for a level that is above that of the Op. -/
def brB (op place : Int) : Bool := decide ((fmOf op).lvl < place)
def dpN (op place deep : Int) : Int := deep + (if brB op place then 1 else 0) + (if (fmOf op).dp then 1 else 0)
def ahT (op place : Int) : List UInt8 := if brB op place then [40] ++ (fmOf op).ah else (fmOf op).ah
def beT (op place : Int) : List UInt8 := if brB op place then (fmOf op).be ++ [41] else (fmOf op).be
def selfB (op : Int) (nm pr : List UInt8) (k : Int) (b : Bool) (n : Int) (t : List UInt8) (ph : List Int) (l : Nat) (place deep : Int) : Bool :=
  isOp op && decide (dpN op place deep ≤ 50) && decide (l = (fmOf op).pl.length) && fldB op nm pr k b n t ph
mutual
/-- Has it a text, at this place, so deep? -/
def okT (place deep : Int) : Tr → Bool
  | .mk op nm pr k b n t ph ks => selfB op nm pr k b n t ph ks.length place deep && okK (fmOf op).pl (dpN op place deep) ks
def okK (ps : List Int) (d : Int) : List Tr → Bool
  | [] => true
  | x :: r => okT (ps.headD 0) d x && okK ps.tail d r
end
mutual
/-- Its text. -/
def txT (place : Int) : Tr → List UInt8
  | .mk op nm pr k b n t ph ks => ahT op place ++ (ownT op nm pr k b n t ++ (txK true (fmOf op).bt (fmOf op).pl ks ++ beT op place))
def txK (first : Bool) (bt : List UInt8) (ps : List Int) : List Tr → List UInt8
  | [] => []
  | x :: r => (if first then [] else bt) ++ (txT (ps.headD 0) x ++ txK false bt ps.tail r)
end
/-- What is written of a text: all of it, if it is no longer than 4096; then something that is longer; and never much more. -/
structure Wr (T bs : List UInt8) : Prop where
  le : T.length ≤ 4096 → bs = T
  gt : 4096 < T.length → 4096 < bs.length
  top : bs.length ≤ 1048576
theorem Wr.nil : Wr [] [] := ⟨fun _ => rfl, fun h => absurd h (by decide), by decide⟩
/-- One word more. -/
def sayW (bs s : List UInt8) : List UInt8 := if bs.length ≤ 4096 then bs ++ s else bs
theorem Wr.say {T bs s : List UInt8} (h : Wr T bs) (hs : s.length ≤ 1000000) : Wr (T ++ s) (sayW bs s) := by
  obtain ⟨h1, h2, h3⟩ := h
  have hl : (T ++ s).length = T.length + s.length := List.length_append
  have hb : (bs ++ s).length = bs.length + s.length := List.length_append
  by_cases hT : T.length ≤ 4096
  · have e := h1 hT
    subst e
    have e2 : sayW bs s = bs ++ s := if_pos hT
    rw [e2]
    exact ⟨fun _ => rfl, fun h => h, by omega⟩
  · have hg := h2 (by omega)
    have e2 : sayW bs s = bs := if_neg (by omega)
    rw [e2]
    exact ⟨fun h => by omega, fun _ => hg, h3⟩
/-- Parse trees as trees. -/
def Ex.tr : Ex → Tr
  | .leaf o nm pr k b n t => .mk o nm pr k b n t [] []
  | .one o x => .mk o [] [] 0 false 0 [] [] [x.tr]
  | .two o x y => .mk o [] [] 0 false 0 [] [] [x.tr, y.tr]
end Go.Proofs.YtkcnpbckmdgfnaaGreatDoor
